import PyProof.Rows.All
import Wide.All
import OpenK.AllK
import Wide.FinOn
import PyProof.EqAt
import PyProof.EqKinds
import PyProof.TupleCall
import Open.SpecLaws
import KE.OsGo
import PySem.Challenge.RW_anyworths_k21_whole_coins_that_come_are
import HandS.ForMost
import HandS.ForExc
import HandS.TryMany
import HandS.ExcInit
import HandS.ExcField
import HandS.Wide
import HandS.IsInst
import HandS.Defaults
import HandS.Small
import HandS.SlotsOwn
import HandS.SetFor
import KE.GoesMore
import KE.GoesEnum
import KE.SortCalls
import PyProof.InstEq
import PyProof.TupleOfSeq
import PyProof.SumWalkG
import PyProof.WalkInts
import PyProof.Rows.SortShellAny
import PyProof.Rows.SortWalk
import KE.OsSort
import OpenK.KEqL
import HandS.TupAny
import HandS.TupMul
import HandS.Strs
import HandS.Conv
set_option Elab.async false
set_option linter.all false
set_option maxRecDepth 100000
set_option maxHeartbeats 4000000
/-! ## The general part: several except clauses with and without a name, own errors, defs as they stand behind the top -/
namespace Gen
open PySem PySem.Spec PyProof.Rows L2
/-- a suite's reading: the exception's place, its class, its dict -/
abbrev SU := Addr → Value → Option Addr → TS
/-- what follows a suite that has named its exception: the name's slot is empty again -/
def Ends.off (D : Ends) (i : Nat) : Ends :=
  { nx := fun z h => D.nx (z.set i none) h, rt := D.rt, bk := fun z h => D.bk (z.set i none) h, ct := fun z h => D.ct (z.set i none) h }
def suiteOf (D : Ends) (o : Option Nat) (t : SU) (a : Addr) (c : Value) (d : Option Addr) (z : L2.St) (h : Hp) : Prop :=
  match o with
  | none => t a c d D z h
  | some i => t a c d (Ends.off D i) (z.set i (some (.ref a))) h
/-- what the clauses wish, one behind the other -/
def wMix (K : PySem.W.Frag) (Wo : WX) (D : Ends) : List (Value × Option Nat × SU) → WX
  | [] => Wo
  | (c, o, t) :: rest => fun k d z h => ∃ yes, PySem.W.exmOne K k c = some yes ∧ (yes = true → ∀ a, h a = none → suiteOf D o t a k d z h) ∧ (yes = false → wMix K Wo D rest k d z h)
inductive HdsX (X : Cx) : List ExceptHandler → List (Value × Option Nat × SU) → Prop
  | nil : HdsX X [] []
  | one {x : Str} {c : Value} {t : SU} {b : Stmt} {bs : List Stmt} {p1 p2 : Pos} {hs : List ExceptHandler} {l : List (Value × Option Nat × SU)} (nm : Names X x c)
      (su : ∀ (a : Addr) (oe : Obj) (k : Value) (d : Option Addr) (pn : List (Addr × Obj)), Zc k d oe → (∃ fs, oe.data = .fields fs) → PSs (X.suite a ((a, oe) :: pn)) (b :: bs) (t a k d))
      (r : HdsX X hs l) : HdsX X (.ExceptHandler (some (.Name x p1)) none (b :: bs) p2 :: hs) ((c, none, t) :: l)
  | asn {i : Nat} {n x : Str} {c : Value} {t : SU} {b : Stmt} {bs : List Stmt} {p1 p2 : Pos} {hs : List ExceptHandler} {l : List (Value × Option Nat × SU)} (nm : Names X x c)
      (nd : X.N.Nodup) (ni : X.N[i]? = some n) (nl : X.env.kindOf n = some .local)
      (su : ∀ (a : Addr) (oe : Obj) (k : Value) (d : Option Addr) (pn : List (Addr × Obj)), Zc k d oe → (∃ fs, oe.data = .fields fs) → PSs (X.suite a ((a, oe) :: pn)) (b :: bs) (t a k d))
      (r : HdsX X hs l) : HdsX X (.ExceptHandler (some (.Name x p1)) (some n) (b :: bs) p2 :: hs) ((c, some i, t) :: l)
section
variable {X : Cx} {body : List Stmt} {h1 : ExceptHandler} {hs : List ExceptHandler} {l : List (Value × Option Nat × SU)} {pos : Pos} {tb : WX → TS} {Wo : WX}
theorem ps_try_mix (est : X.stack = X.env :: X.outer) (efr : X.env.frame = some X.env.locals) (tkO : Takes X Wo)
    (hb : ∀ (W : WX) (pn : List (Addr × Obj)) (xe : Value → Shared → Prop), Takes (X.tr pn xe) W → PassesOwn (model X.prog X.w) X.A X.env xe → PSs (X.tr pn xe) body (tb W))
    (hh : HdsX X (h1 :: hs) l) : PS X (.Try body (h1 :: hs) [] [] pos) (fun D z h => tb (wMix X.K Wo D l) D z h) := by
  refine ⟨fun pins s z h D I red => ?_⟩
  have good := I.ok
  have efs : X.A.frames = some (X.env :: X.outer) := good.frames.trans (congrArg some est)
  refine wpAny_Try_except (wpAny_mono ((hb (wMix X.K Wo D l) (X.pn ++ pins) (fun e u1 => wpAny (model X.prog X.w) X.A (noteFrame e X.env) (fun _ u2 => wpAny (model X.prog X.w) X.A (setFlight e none) (fun _ u3 =>
    wpAny (model X.prog X.w) X.A (handleBy e X.env (h1 :: hs)) (SP X pins D) X.xe u3) X.xe u2) X.xe u1) (fun u u' air => ?_) PassesOwn.looking).run [] s z h D (I.toTry _) red) (fun fl u1 sp1 => ?_) (fun e u1 q => q))
  · obtain ⟨a, B, sI, pins2, z2, g2, k, d, rfl, J0, nb, up, sky0, na, os, ag, wish⟩ := air
    have J : Inv X pins z2 g2 sI := J0.ofTry good
    have sky : Sky B (X.env :: X.outer) a (Zc k d) X.env.locals u'.heap := est ▸ sky0
    show wpAny (model X.prog X.w) X.A (noteFrame (.ref a) X.env) _ _ _
    refine Sky.land Zc.steady efs efr sky fun hp3 fl3 up3 => ?_
    have J3 : Inv X pins z2 g2 { u' with heap := hp3 } := J.landed nb fl3.1 (up.trans up3) os ag
    obtain ⟨o3, fs3, e3, zc3, d3⟩ := fl3.there
    have offFr : ∀ {hp : Heap} {o : Obj} {fs : Array Value}, hp.FunFrames B (X.env :: X.outer) → hp.get? a = some o → o.data = .fields fs → a ∉ frs (X.env :: X.outer) := fun {hp o fs} ff eo dd hm => by
      obtain ⟨_, o', eo', nf⟩ := ff.mem hm
      cases eo.symm.trans eo'
      exact nf _ dd
    have nfr := offFr fl3.2.2.1 e3 d3
    have nL : a ≠ X.env.locals := fun q => nfr (List.mem_filterMap.mpr ⟨X.env, List.mem_cons_self, efr.trans (congrArg some q.symm)⟩)
    have nF : a ∉ X.fs := fun hm => by
      obtain ⟨en, hen, q⟩ := List.mem_filterMap.mp hm
      exact nfr (List.mem_filterMap.mpr ⟨en, List.mem_cons_of_mem _ hen, q⟩)
    have S3 := J3.suite e3 d3 na nL nF
    have looksT : PySem.W.Looks (model X.prog X.w) hp3 (typeOf (.ref a)) k := fun A Q E s kp q => wpAny_typeOf_ref (kp _ _ e3) (by rw [zc3.1]; exact q)
    have named : ∀ {x : Str} {c : Value} {np : Pos} {Q : Value → Shared → Prop} {E : Value → Shared → Prop}, Names X x c → Q c { u' with heap := hp3 } →
        wpAny (model X.prog X.w) (X.A.mark (some (.ref a))) (eval (.Name x np) X.env) Q E { u' with heap := hp3 } := fun {x c np Q E} nm q => by
      rcases nm with ⟨hg, hd, hm | ⟨hm, hv, hx⟩⟩
      · exact ld_glob (X := X.suite a ((a, o3) :: (X.pn ++ pins))) S3 hg hm q hd
      · exact ld_blt (X := X.suite a ((a, o3) :: (X.pn ++ pins))) S3 hg hm hv q hx hd
    have go : ∀ {hs' : List ExceptHandler} {l' : List (Value × Option Nat × SU)}, HdsX X hs' l' → wMix X.K Wo D l' k d z2 g2 →
        wpAny (model X.prog X.w) X.A (handleBy (.ref a) X.env hs') (SP X pins D) X.xe { u' with heap := hp3 } := by
      intro hs' l' hk
      induction hk with
      | nil =>
        intro wish
        refine wpAny_handleBy_nil ?_
        obtain ⟨q1, q2, q3, oe, fs, T, oT, ts', eo, zc, dd, one, more⟩ := id fl3
        unfold PySem.passOn
        refine wpAny_bind (wpAny_field eo dd one ?_)
        rw [if_neg (show ¬ ((Value.ref T == Value.none) = true) by simp)]
        have away : wpAny (model X.prog X.w) X.A (setFlight (.ref a) X.env.frame) (fun _ u4 => wpAny (model X.prog X.w) X.A (throw (.ref a) : Sem Flow) (SP X pins D) X.xe u4) X.xe { u' with heap := hp3 } := by
          rw [efr]
          refine HandSPX.setFlight_upZ fl3 fun hp4 sky4 up4 => wpAny_throw (tkO _ _ ?_)
          exact ⟨a, B, sI, pins, z2, g2, k, d, rfl, J, nb, (up.trans up3).trans up4, .inr (.inr (est ▸ sky4)), na, os, ag, wish⟩
        first
          | exact wpAny_bind (wpAny_pure (wpAny_bind away))
          | exact wpAny_bind away
      | @one x c t b bs p1 p2 hs2 l2 nm su r ih =>
        intro wish
        obtain ⟨yes, ex, wy, wn⟩ := wish
        refine wpAny_handleBy_cons (codeAny_handlers_test (named nm ((PySem.W.exm_one (M := model X.prog X.w) J3.kIn looksT ex).here ?_))) (by intro q; cases q)
        cases yes with
        | true =>
          refine codeAny_handlers_suite (HandSPX.lands_againZ fl3 fun hp4 fl4 up4 => ?_)
          have J4 : Inv X pins z2 g2 { u' with heap := hp4 } := J.landed nb fl4.1 ((up.trans up3).trans up4) os ag
          obtain ⟨o4, fs4, e4, zc4, d4⟩ := fl4.there
          refine wpAny_mono ((su a o4 k d (X.pn ++ pins) zc4 ⟨_, d4⟩).run [] _ _ g2 _ (J4.suite e4 d4 na nL nF) (wy rfl a na)) (fun fl u6 sp6 => ?_) (fun _ _ q => False.elim q)
          cases fl with
          | ret v =>
            obtain ⟨v6, z6, g6, S6, r6, q6⟩ := sp6
            exact ⟨_, _, _, S6.unsuite good, r6, q6⟩
          | _ =>
            obtain ⟨z6, g6, S6, q6⟩ := sp6
            exact ⟨_, _, S6.unsuite good, q6⟩
        | false =>
          show wpAny _ X.A (handleBy (.ref a) X.env hs2) _ _ _
          exact ih (wn rfl)
      | @asn i n x c t b bs p1 p2 hs2 l2 nm nd ni nl su r ih =>
        intro wish
        obtain ⟨yes, ex, wy, wn⟩ := wish
        refine wpAny_handleBy_cons (codeAny_handlers_test (named nm ((PySem.W.exm_one (M := model X.prog X.w) J3.kIn looksT ex).here ?_))) (by intro q; cases q)
        cases yes with
        | true =>
          refine codeAny_handlers_suite_as (HandSPX.lands_againZ fl3 fun hp4 fl4 up4 => ?_)
          have J4 : Inv X pins z2 g2 { u' with heap := hp4 } := J.landed nb fl4.1 ((up.trans up3).trans up4) os ag
          obtain ⟨o4, fs4, e4, zc4, d4⟩ := fl4.there
          refine store_ok (X := X.suite a ((a, o4) :: (X.pn ++ pins))) (v := .ref a) (J4.suite e4 d4 na nL nF) nd ni (.inl nl) rfl (fun u5 S5 => ?_) (.inr nl)
          refine wpAny_mono ((su a o4 k d (X.pn ++ pins) zc4 ⟨_, d4⟩).run [] u5 _ g2 _ S5 (wy rfl a na)) (fun fl u6 sp6 => ?_) (fun _ _ q => False.elim q)
          have left : ∀ {z6 : L2.St} {g6 : Hp} {R : Shared → Prop}, Inv (X.suite a ((a, o4) :: (X.pn ++ pins))) [] z6 g6 u6 → (∀ u7, Inv X pins (z6.set i none) g6 u7 → R u7) →
              wpAny (model X.prog X.w) X.A (do bindName X.env n .none; unbindBehindTheSuite X.env n p2) (fun _ u7 => R u7) X.xe u6 := fun {z6 g6 R} S6 q => gone_ok (S6.unsuite good) nd ni nl q
          cases fl with
          | ret v =>
            obtain ⟨v6, z6, g6, S6, r6, q6⟩ := sp6
            exact left S6 fun u7 J7 => ⟨_, _, _, J7, r6, q6⟩
          | _ =>
            obtain ⟨z6, g6, S6, q6⟩ := sp6
            exact left S6 fun u7 J7 => ⟨_, _, J7, q6⟩
        | false =>
          show wpAny _ X.A (handleBy (.ref a) X.env hs2) _ _ _
          exact ih (wn rfl)
    exact go hh wish
  · cases fl with
    | ret v =>
      obtain ⟨v2, z2, g2, J2, r2, q2⟩ := sp1
      exact ⟨v2, z2, g2, J2.ofTry good, r2, q2⟩
    | next =>
      obtain ⟨z2, g2, J2, q2⟩ := sp1
      exact wpAny_execs_nil ⟨z2, g2, J2.ofTry good, q2⟩
    | _ =>
      obtain ⟨z2, g2, J2, q2⟩ := sp1
      exact ⟨z2, g2, J2.ofTry good, q2⟩
end
/-! ### defs as they stand behind the top -/
def Df (K : PySem.W.Frag) (mg : Str → Option Value) (x : Str) (st : Stmt) (ps : List Str) : Prop :=
  ∃ f fd, Fun K x x st f fd ∧ mg x = some (.ref f) ∧ Binds K fd ps []
/-- with defaults; one is left out in some call -/
def DfD (K : PySem.W.Frag) (mg : Str → Option Value) (x : Str) (st : Stmt) (ps : List Str) (dvs : List V) : Prop :=
  ∃ f fd, FunD K x x (defArgs st) (defBody st) (defScope st) dvs [] f fd ∧ mg x = some (.ref f) ∧ Binds K fd ps []
/-- an own error without an __init__ -/
structure XP (K : PySem.W.Frag) (mg : Str → Option Value) (x : Str) (C : Addr) : Prop where
  gC : mg x = some (.ref C)
  xC : PySem.W.excIn K C [.type "ValueError", .type "Exception", .type "BaseException", .type "object"] "ValueError.__new__" = true
  kC : PySem.W.keepIn K (.ref C) = true
  eC : PySem.W.subIn K (.ref C) (.type "BaseException") = some true
  tC : PySem.W.typeIn K (.ref C) = some (.type "type")
theorem XP.made {X : Cx} {x : Str} {C : Addr} {p pos : Pos} (T : XP X.K X.mg x C) (hg : Gl X x) (hdb : (x == ("__debug__" : Str)) = false := by decide) :
    PMk X (.Call (.Name x p) [] [] pos) (fun _ H Q => Q (.ref C) none H) := by
  intro pins s z H Q I q
  refine wpAny_Call_Name_kw (ld_glob I hg T.gC (PySem.W.callWith_K0 I.kIn T.kC ?_) hdb)
  obtain ⟨bm, N, nm, qn, bs, hdct, sn, sub, ab, col, dd, k0, k1, k2, k3, k5, mN, hC, hN, hni, tl⟩ := exc_obj I.kIn T.xC
  exact wpAny_call_exc_subT F.excBase_ValueError tl hC hN hni (fun h' e hm => mk_of I hm (raises_own T.eC T.tC) q (I.hok.gone hm.new)) (by show 0 ≤ sizeLine; exact Nat.zero_le _)
/-- an own error whose __init__ keeps its arguments -/
structure XI (K : PySem.W.Frag) (mg : Str → Option Value) (x qual : Str) (st : Stmt) (ps : List Str) (C : Addr) : Prop where
  gC : mg x = some (.ref C)
  ox : OexC K C
  ini : ∃ f fd, Fun K "__init__" qual st f fd ∧ Binds K fd ps [] ∧ PySem.W.findIn K (.ref C) "__init__" = some (some (.ref f)) ∧ PySem.W.typeIn K (.ref f) = some (.type "function")
/-- the promise of an __init__ that keeps one argument as f -/
def spI1 (K : PySem.W.Frag) (C : Addr) (f : Str) : Sp := fun vs H Q _ => ∃ a v, vs = [.ref a, v] ∧ H a = some (exo a C none) ∧ OexC K C ∧ PySem.W.findIn K (.ref C) f = some none ∧
  ∀ dx, H dx = none → dx ≠ a → Q .non (upd (upd H dx (exd dx [(f, v)])) a (exo a C (some dx)))
/-- .. two arguments as f and g -/
def spI2 (K : PySem.W.Frag) (C : Addr) (f g : Str) : Sp := fun vs H Q _ => ∃ a v u, vs = [.ref a, v, u] ∧ H a = some (exo a C none) ∧ OexC K C ∧ PySem.W.findIn K (.ref C) f = some none ∧ PySem.W.findIn K (.ref C) g = some none ∧
  ∀ dx, H dx = none → dx ≠ a → Q .non (upd (upd (upd H dx (exd dx [(f, v)])) a (exo a C (some dx))) dx (exd dx [(g, u), (f, v)]))
theorem heap_made {H : Hp} {a d : Addr} {o1 o2 o3 o : HO} (ha : H a = none) (n : d ≠ a) : upd (del (upd (upd (upd H a o1) d o2) a o3) a) d o = upd H d o := by
  funext b
  by_cases hd : b = d
  · rw [hd, upd_same, upd_same]
  · rw [upd_ne hd, upd_ne hd]
    by_cases hb : b = a
    · rw [hb, del_same, ha]
    · rw [del_ne hb, upd_ne hb, upd_ne hd, upd_ne hb]
theorem raise1 {K : PySem.W.Frag} {C : Addr} {f : Str} {H : Hp} {v : V} {Q : XK} {E : XK} (T : OexC K C) (n : PySem.W.findIn K (.ref C) f = some none) (q : ∀ d, H d = none → Q (.ref C) (some d) (upd H d (.xd [(f, v)]))) :
    [v].length ≤ 1000 ∧ ∀ a, H a = none → spI1 K C f (.ref a :: ([v] ++ [])) (upd H a (exo a C none))
      (fun y H2 => y = .non ∧ ∃ (d : Addr) (fs : List (Str × V)), H2 a = some (exo a C (some d)) ∧ H2 d = some (exd d fs) ∧ H d = none ∧ Q (.ref C) (some d) (upd (del H2 a) d (.xd fs))) E := by
  refine ⟨(show 1 ≤ 1000 by decide), fun a ha => ⟨a, v, rfl, upd_same, T, n, fun dx hx ne => ⟨rfl, dx, [(f, v)], upd_same, ?_, ?_, ?_⟩⟩⟩
  · rw [upd_ne ne, upd_same]
  · rwa [upd_ne ne] at hx
  · rw [upd_ne ne] at hx
    rw [heap_made ha ne]
    exact q dx hx
theorem heap_made2 {H : Hp} {a d : Addr} {o1 o2 o3 o4 o : HO} (ha : H a = none) (n : d ≠ a) : upd (del (upd (upd (upd (upd H a o1) d o2) a o3) d o4) a) d o = upd H d o := by
  funext b
  by_cases hd : b = d
  · rw [hd, upd_same, upd_same]
  · rw [upd_ne hd, upd_ne hd]
    by_cases hb : b = a
    · rw [hb, del_same, ha]
    · rw [del_ne hb, upd_ne hd, upd_ne hb, upd_ne hd, upd_ne hb]
theorem raise2 {K : PySem.W.Frag} {C : Addr} {f g : Str} {H : Hp} {v u : V} {Q : XK} {E : XK} (T : OexC K C) (n : PySem.W.findIn K (.ref C) f = some none) (m : PySem.W.findIn K (.ref C) g = some none)
    (q : ∀ d, H d = none → Q (.ref C) (some d) (upd H d (.xd [(g, u), (f, v)]))) :
    [v, u].length ≤ 1000 ∧ ∀ a, H a = none → spI2 K C f g (.ref a :: ([v, u] ++ [])) (upd H a (exo a C none))
      (fun y H2 => y = .non ∧ ∃ (d : Addr) (fs : List (Str × V)), H2 a = some (exo a C (some d)) ∧ H2 d = some (exd d fs) ∧ H d = none ∧ Q (.ref C) (some d) (upd (del H2 a) d (.xd fs))) E := by
  refine ⟨(show 2 ≤ 1000 by decide), fun a ha => ⟨a, v, u, rfl, upd_same, T, n, m, fun dx hx ne => ⟨rfl, dx, [(g, u), (f, v)], ?_, upd_same, ?_, ?_⟩⟩⟩
  · rw [upd_ne (Ne.symm ne), upd_same]
  · rwa [upd_ne ne] at hx
  · rw [upd_ne ne] at hx
    rw [heap_made2 ha ne]
    exact q dx hx
/-! ### numbers and kinds of things -/
theorem cdw {i j : Int} (h : 0 < j) (b : j < 9223372036854775808) : CDivW i j :=
  wide_div (b := 63) h (by have e : (2 : Nat) ^ 63 = 9223372036854775808 := by decide
                           omega) (by decide) (by decide)
theorem cml {i j : Int} (h : -18446744073709551616 < i) (b : i < 18446744073709551616) : CMul i j := by
  have e : (2 : Int) ^ 64 = 18446744073709551616 := by decide
  exact .inl ⟨by omega, by omega⟩
theorem cmr {i j : Int} (h : -18446744073709551616 < j) (b : j < 18446744073709551616) : CMul i j := by
  have e : (2 : Int) ^ 64 = 18446744073709551616 := by decide
  exact .inr ⟨by omega, by omega⟩
/-- the things that a law hands in: None, bools, ints, texts, tuples, lists, dicts -/
def Plain (H : Hp) : V → Prop
  | .non => True
  | .bl _ => True
  | .int _ => True
  | .str _ => True
  | .ref a => (∃ xs, H a = some (.tup xs)) ∨ (∃ xs, H a = some (.lst xs)) ∨ ∃ kvs, H a = some (.dK kvs)
  | _ => False
def isI : V → Bool
  | .int _ => true
  | _ => false
def isB : V → Bool
  | .bl _ => true
  | _ => false
/-- a whole number from lo to hi -/
def whole (x : V) (lo hi : Int) : Bool := match x with
  | .int i => decide (lo ≤ i) && decide (i ≤ hi)
  | _ => false
theorem Plain.same {H H' : Hp} {x : V} (s : Same H H') (h : Plain H x) : Plain H' x := by
  cases x with
  | ref a =>
    rcases h with ⟨xs, h⟩ | ⟨xs, h⟩ | ⟨xs, h⟩
    · exact .inl ⟨xs, s _ _ h⟩
    · exact .inr (.inl ⟨xs, s _ _ h⟩)
    · exact .inr (.inr ⟨xs, s _ _ h⟩)
  | _ => exact h
theorem isi_int {K : PySem.W.Frag} {H : Hp} {x : V} {Q : VK} (h : Plain H x) (q : Q (.bl (isI x || isB x)) H) : rIsi K [x, .ty "int"] H Q := by
  cases x with
  | non => exact ⟨_, _, _, _, false, rfl, .ty _, .base .non, kit_ty (by decide +kernel), q⟩
  | bl b => exact ⟨_, _, _, _, true, rfl, .ty _, .base (.bl _), kit_ty (by decide +kernel), q⟩
  | int i => exact ⟨_, _, _, _, true, rfl, .ty _, .base (.int _), kit_ty (by decide +kernel), q⟩
  | str z => exact ⟨_, _, _, _, false, rfl, .ty _, .base (.str _), kit_ty (by decide +kernel), q⟩
  | ref a =>
    rcases h with ⟨xs, h⟩ | ⟨xs, h⟩ | ⟨xs, h⟩
    · exact ⟨_, _, _, _, false, rfl, .ty _, .base (.tup h), kit_ty (by decide +kernel), q⟩
    · exact ⟨_, _, _, _, false, rfl, .ty _, .base (.lst h), kit_ty (by decide +kernel), q⟩
    · exact ⟨_, _, _, _, false, rfl, .ty _, .base (.dK h), kit_ty (by decide +kernel), q⟩
  | byt _ => exact h.elim
  | flt _ => exact h.elim
  | ty _ => exact h.elim
theorem isi_bool {K : PySem.W.Frag} {H : Hp} {x : V} {Q : VK} (h : Plain H x) (q : Q (.bl (isB x)) H) : rIsi K [x, .ty "bool"] H Q := by
  cases x with
  | non => exact ⟨_, _, _, _, false, rfl, .ty _, .base .non, kit_ty (by decide +kernel), q⟩
  | bl b => exact ⟨_, _, _, _, true, rfl, .ty _, .base (.bl _), kit_ty (by decide +kernel), q⟩
  | int i => exact ⟨_, _, _, _, false, rfl, .ty _, .base (.int _), kit_ty (by decide +kernel), q⟩
  | str z => exact ⟨_, _, _, _, false, rfl, .ty _, .base (.str _), kit_ty (by decide +kernel), q⟩
  | ref a =>
    rcases h with ⟨xs, h⟩ | ⟨xs, h⟩ | ⟨xs, h⟩
    · exact ⟨_, _, _, _, false, rfl, .ty _, .base (.tup h), kit_ty (by decide +kernel), q⟩
    · exact ⟨_, _, _, _, false, rfl, .ty _, .base (.lst h), kit_ty (by decide +kernel), q⟩
    · exact ⟨_, _, _, _, false, rfl, .ty _, .base (.dK h), kit_ty (by decide +kernel), q⟩
  | byt _ => exact h.elim
  | flt _ => exact h.elim
  | ty _ => exact h.elim
/-- T // (m - 1) + 1, again and again -/
def room (p t : Int) : Int := t / (p - 1) + 1
def grow (p : Int) : Nat → Int → Int
  | 0, a => a
  | k + 1, a => grow p k a + room p (grow p k a)
theorem grow_le {p : Int} (hp : 2 ≤ p) : ∀ (k : Nat) {a : Int}, 0 ≤ a → 0 ≤ grow p k a ∧ grow p k a ≤ 2 ^ k * (a + 1) - 1
  | 0, a, h => ⟨h, by show a ≤ 2 ^ 0 * (a + 1) - 1; omega⟩
  | k + 1, a, h => by
    obtain ⟨h1, h2⟩ := grow_le hp k h
    have e : (2 : Int) ^ (k + 1) = 2 * 2 ^ k := by rw [Int.pow_succ, Int.mul_comm]
    have r0 : 0 ≤ grow p k a / (p - 1) := Int.ediv_nonneg h1 (by omega)
    have r1 : grow p k a / (p - 1) ≤ grow p k a := Int.ediv_le_self _ h1
    show 0 ≤ grow p k a + (grow p k a / (p - 1) + 1) ∧ grow p k a + (grow p k a / (p - 1) + 1) ≤ 2 ^ (k + 1) * (a + 1) - 1
    rw [e, Int.mul_assoc]
    omega
theorem whole_of {x : V} {lo hi : Int} (h : whole x lo hi = true) : ∃ i, x = .int i ∧ lo ≤ i ∧ i ≤ hi := by
  cases x with
  | int i =>
    have h' : (decide (lo ≤ i) && decide (i ≤ hi)) = true := h
    rw [Bool.and_eq_true, decide_eq_true_eq, decide_eq_true_eq] at h'
    exact ⟨i, rfl, h'.1, h'.2⟩
  | _ => exact absurd (show false = true from h) Bool.false_ne_true
theorem whole_int {i lo hi : Int} (h1 : lo ≤ i) (h2 : i ≤ hi) : whole (.int i) lo hi = true := by
  show (decide (lo ≤ i) && decide (i ≤ hi)) = true
  rw [decide_eq_true h1, decide_eq_true h2]
  rfl
theorem whole_no {i lo hi : Int} (h : i < lo ∨ hi < i) : whole (.int i) lo hi = false := by
  show (decide (lo ≤ i) && decide (i ≤ hi)) = false
  rcases h with h | h
  · rw [decide_eq_false (by omega : ¬ lo ≤ i)]
    rfl
  · rw [decide_eq_false (by omega : ¬ i ≤ hi), Bool.and_false]
/-- a def that checks a number up to m, then the people from 2 to 5, and then does R -/
def spTwo (cX : Addr) (m : Int) (cP : Addr) (R : Int → Int → VK → Hp → Prop) : Sp := fun vs H Q E => ∃ x y : V, vs = [x, y] ∧ Plain H x ∧ Plain H y ∧
  (whole x 0 m = false → ∀ d, H d = none → E (.ref cX) (some d) (upd H d (.xd [("most", .int m)]))) ∧ (whole x 0 m = true → whole y 2 5 = false → E (.ref cP) none H) ∧
  ∀ t p : Int, x = .int t → y = .int p → 0 ≤ t → t ≤ m → 2 ≤ p → p ≤ 5 → R t p Q H
theorem len_two {cX cP : Addr} {m : Int} {R : Int → Int → VK → Hp → Prop} {vs : List V} {H : Hp} {Q : VK} {E : XK} (h : spTwo cX m cP R vs H Q E) : vs.length = 2 := by
  obtain ⟨_, _, rfl, _⟩ := h; rfl
/-- the fewest steps that reach t -/
def Least (p t : Int) (n : Nat) : Prop := (∀ k, k < n → grow p k 0 < t) ∧ t ≤ grow p n 0
/-! ### for k, x in enumerate(xs) -/
theorem for_enum {K : PySem.W.Frag} {a : Addr} {xs : List V} {g : TG} {tb : TS} {D : Ends} {z0 : L2.St} {H : Hp} (Pv : Nat → L2.St → Hp → Prop) (h0 : Pv 0 z0 H) (hl : ∀ i z h, i ≤ xs.length → Pv i z h → SqL K h a xs)
    (hs : ∀ i x T z h, xs[i]? = some x → h T = none → Pv i z h → g (.ref T) z (upd h T (.tup [.int (i : Nat), x])) fun z2 h2 => tb { D with nx := Pv (i + 1), ct := Pv (i + 1), bk := D.nx } z2 h2) (hd : ∀ z h, Pv xs.length z h → D.nx z h) :
    ∃ W : Nat → Nat → L2.St → Hp → Prop, (∃ m, W 0 m z0 H) ∧ ∀ i m z h, W i m z h →
      ((Ite K a).stop i h ∧ D.nx z h) ∨ ((Ite K a).go i h ∧ ∃ N : L2.St → Hp → Prop, (∀ z' h', N z' h' → ∃ m', m' < m ∧ W (i + 1) m' z' h') ∧ ∀ x h', (Ite K a).yld i h x h' → g x z h' fun z2 h2 => tb { D with nx := N, ct := N, bk := D.nx } z2 h2) := by
  refine ⟨fun i m z h => m = xs.length - i ∧ i ≤ xs.length ∧ Pv i z h, ⟨xs.length, by simp, Nat.zero_le _, h0⟩, ?_⟩
  rintro i m z h ⟨rfl, hi, p⟩
  have q := hl i z h hi p
  by_cases hlt : i < xs.length
  · refine .inr ⟨⟨xs, xs[i], q, by simp [hlt]⟩, Pv (i + 1), fun z' h' p' => ⟨xs.length - (i + 1), by omega, rfl, hlt, p'⟩, fun v h' y => ?_⟩
    obtain ⟨T, x, rfl, hT, rfl, hx⟩ := y
    exact hs i x T z h (hx xs q) hT p
  · obtain rfl : i = xs.length := by omega
    exact .inl ⟨⟨xs, q, Nat.le_refl _⟩, hd z h p⟩
/-! ### the hand of a law: its list [cells, place, rest, total], all of them whole numbers from 0 -/
structure HandAt (H : Hp) (h q : Addr) : Prop where
  ex : ∃ (cs : List Int) (i r t : Int), H h = some (.lst [.ref q, .int i, .int r, .int t]) ∧ H q = some (.lst (cs.map V.int)) ∧ cs.length ≤ 63 ∧ (∀ c, c ∈ cs → 0 ≤ c) ∧ 0 ≤ i ∧ i ≤ cs.length ∧ 0 ≤ r ∧ 0 ≤ t ∧ t < 2147483629
/-- all that stood stands, but for what is at h -/
def But (h : Addr) (H H' : Hp) : Prop := ∀ b o, H b = some o → b ≠ h → H' b = some o
theorem But.refl (h : Addr) (H : Hp) : But h H H := fun _ _ e _ => e
theorem But.trans {h : Addr} {H1 H2 H3 : Hp} (a : But h H1 H2) (b : But h H2 H3) : But h H1 H3 := fun c o e n => b c o (a c o e n) n
theorem But.of {h : Addr} {H H' : Hp} (s : Same H H') : But h H H' := fun b o e _ => s b o e
theorem But.new {h p : Addr} {H : Hp} {o : HO} (hp : H p = none) : But h H (upd H p o) := fun b u e _ => by
  rw [upd_ne (ne_of_none e hp)]; exact e
theorem But.upd {h : Addr} {H : Hp} {o : HO} : But h H (L2.upd H h o) := fun b u e n => by
  rw [upd_ne n]; exact e
theorem But.then {h : Addr} {H H' : Hp} {o : HO} (a : But h H H') : But h H (L2.upd H' h o) := a.trans But.upd
theorem Same.new {p : Addr} {H : Hp} {o : HO} (hp : H p = none) : Same H (upd H p o) := fun b u e => by
  rw [upd_ne (ne_of_none e hp)]; exact e
theorem HandAt.ne {H : Hp} {h q : Addr} (x : HandAt H h q) : h ≠ q := by
  obtain ⟨cs, i, r, t, h1, h2, _⟩ := x.ex
  intro e
  rw [e, h2] at h1
  cases cs with
  | nil => cases h1
  | cons c cs => cases h1
theorem HandAt.same {H H' : Hp} {h q : Addr} (x : HandAt H h q) (s : Same H H') : HandAt H' h q := by
  obtain ⟨cs, i, r, t, h1, h2, m⟩ := x.ex
  exact ⟨cs, i, r, t, s _ _ h1, s _ _ h2, m⟩
theorem HandAt.has {H : Hp} {h q : Addr} (x : HandAt H h q) : ∃ o, H h = some o := by
  obtain ⟨cs, i, r, t, h1, _⟩ := x.ex
  exact ⟨_, h1⟩
theorem HandAt.off {H : Hp} {h q p : Addr} (x : HandAt H h q) (hp : H p = none) : p ≠ h := by
  obtain ⟨o, e⟩ := x.has
  exact fun z => by rw [z, e] at hp; cases hp
/-- a draw's promise: some number below many, the hand as a hand -/
def spDraw : Sp := fun vs H Q _ => ∃ (h q : Addr) (m : Int), vs = [.ref h, .int m] ∧ HandAt H h q ∧ 0 < m ∧ m < 9223372036854775808 ∧
  ∀ d H', 0 ≤ d → d < m → HandAt H' h q → But h H H' → Q (.int d) H'
def spHand (K : PySem.W.Frag) : Sp := fun vs H Q _ => ∃ (a : Addr) (ns : List Int), vs = [.ref a] ∧ SqL K H a (ns.map V.int) ∧ ns.length ≤ 63 ∧
  ∀ h q H', Same H H' → HandAt H' h q → Q (.ref h) H'
def spMix : Sp := fun vs H Q _ => ∃ n t : Int, vs = [.int n, .int t] ∧ 0 ≤ n ∧ n < 2147483648 ∧ 0 ≤ t ∧ t ≤ 1000 ∧ ∀ r, 0 ≤ r → Q (.int r) H
theorem nat_map {ns : List Int} {i : Nat} {y : V} (h : (ns.map V.int)[i]? = some y) : ∃ c, ns[i]? = some c ∧ y = .int c := by
  rw [List.getElem?_map] at h
  cases e : ns[i]? with
  | none => rw [e] at h; cases h
  | some c => rw [e] at h; exact ⟨c, rfl, (Option.some.inj h).symm⟩
theorem two_ok {cX cP : Addr} {m : Int} {R : Int → Int → VK → Hp → Prop} {t p : Int} {H : Hp} {Q : VK} {E : XK} (t0 : 0 ≤ t) (t1 : t ≤ m) (p0 : 2 ≤ p) (p1 : p ≤ 5) (r : R t p Q H) : spTwo cX m cP R [.int t, .int p] H Q E :=
  ⟨_, _, rfl, True.intro, True.intro, fun a => absurd (a.symm.trans (whole_int t0 t1)) (by decide), fun _ b => absurd (b.symm.trans (whole_int p0 p1)) (by decide), fun t' p' e1 e2 _ _ _ _ => by
    cases e1
    cases e2
    exact r⟩
theorem isi_tuple {K : PySem.W.Frag} {H : Hp} {a : Addr} {xs : List V} {Q : VK} (h : H a = some (.tup xs)) (q : Q (.bl true) H) : rIsi K [.ref a, .ty "tuple"] H Q :=
  ⟨_, _, _, _, true, rfl, .ty _, .base (.tup h), kit_ty (by decide +kernel), q⟩
theorem pow2_le {k n : Nat} (h : k ≤ n) : (2 : Int) ^ k ≤ 2 ^ n := by
  have e : (2 : Nat) ^ k ≤ 2 ^ n := Nat.pow_le_pow_right (by decide) h
  have c : ∀ j : Nat, (2 : Int) ^ j = ((2 ^ j : Nat) : Int) := fun j => by
    induction j with
    | zero => rfl
    | succ j ih => rw [Int.pow_succ, ih, Nat.pow_succ]; omega
  rw [c, c]
  omega
/-- two tuples (text, number) with the same data -/
theorem ne_pair {K : PySem.W.Frag} {H : Hp} {a b : Addr} {x : Str} {n : Int} {Q : VK} (ha : H a = some (.tup [.str x, .int n])) (hb : H b = some (.tup [.str x, .int n])) (sx : SeqAt.shaped (.tuple [.str x, .int n]) = true) (q : Q (.bl false) H) : rNeD K (.ref a) (.ref b) H Q := by
  refine ⟨.tuple [.str x, .int n], .tuple [.str x, .int n], .tup (SqT.of ha) (.cons (.str _) (.cons (.int _) .nil)), .tup (SqT.of hb) (.cons (.str _) (.cons (.int _) .nil)), sx, sx, ?_⟩
  have e : PyData.eqv (.tuple [.str x, .int n]) (.tuple [.str x, .int n]) = true := by simp [PyData.eqv, PyData.eqvAll]
  rw [e]
  exact q
theorem Least.one {p t : Int} {n m : Nat} (a : Least p t n) (b : Least p t m) : n = m := by
  rcases Nat.lt_trichotomy n m with h | h | h
  · have z := b.1 n h
    have y := a.2
    omega
  · exact h
  · have z := a.1 m h
    have y := b.2
    omega
/-- what «except» asks of two classes -/
theorem exm_mk {K : PySem.W.Frag} {S R : Addr} {b : Bool} (h1 : PySem.W.subIn K (.ref S) (.type "BaseException") = some true) (h2 : PySem.W.isClsIn K S = true) (h3 : PySem.W.typeIn K (.ref S) = some (.type "type")) (h4 : PySem.W.subIn K (.ref R) (.ref S) = some b) :
    PySem.W.exmOne K (.ref R) (.ref S) = some b := by
  have e1 : (PySem.W.subIn K (.ref S) (.type "BaseException") == some true) = true := by rw [h1]; rfl
  have h2' : (PySem.W.clsIn K S).isSome = true := h2
  have e2 : ((PySem.W.clsIn K S).isSome && PySem.W.typeIn K (.ref S) == some (.type "type")) = true := by rw [h2', h3]; rfl
  show (if _ then (if _ then _ else none) else none) = some b
  rw [if_pos e1, if_pos e2]
  exact h4
end Gen
set_option Elab.async false
set_option linter.all false
set_option maxRecDepth 100000
set_option maxHeartbeats 4000000
/-! ## More rules: == and != of own instances, sorted and sum of tuples, enumerate of tuples -/
namespace Gen
open PySem PySem.Spec PyProof.Rows L2
section
variable {X : Cx} {pins : List (Addr × Obj)} {z : L2.St} {H : Hp} {s : Shared} {n : Nat} {f C : Addr} {fd : FuncData} {ps : List Str} {sp : Sp} {vs : List V} {us : List Value} {Q : VK}
theorem call_below {A : Around} (F : FnOk X.prog X.w X.K X.mg X.base CX0 n f fd ps sp) (hb : L2.Binds X.K fd ps []) (room : Room n A) (efr : A.frames = X.A.frames) (I : Inv X pins z H s) (r : Vals vs us) (q : sp vs H Q E0) :
    wpAny (model X.prog X.w) A (call (.ref f) us) (EP X pins z Q) X.xe s := by
  have e0 : Env0 X.prog X.w X.K X.mg X.base A X.stack s H := by
    have e := I.env0
    exact ⟨by rw [efr]; exact e.frames, e.mod, e.bs, e.bsz, e.funs, e.frf, e.hok, e.bare⟩
  have hl := F.len _ _ _ _ q
  have b := hb s us I.kIn (by rw [List.append_nil, ← r.length]; exact hl)
  rw [List.append_nil] at b
  refine wpAny_call (codeAny_mono (F.run A X.stack s H ⟨us, []⟩ us vs Q E0 room e0 b r q) fun o s' hq => ?_)
  cases o with
  | error e => exact False.elim hq
  | ok fl =>
    cases fl with
    | ret u => exact I.after hq
    | _ => exact False.elim hq
/-- == (neg: !=) of an instance of the class at C by its own __eq__, whatever stands on the right -/
def rOwnEq (K : PySem.W.Frag) (C : Addr) (sp : Sp) (neg : Bool) : R2 := fun x y H Q => ∃ a dx fs t, x = .ref a ∧ H a = some (.ins C dx fs) ∧ TyX K H y t ∧ PySem.W.notFirst K C t = true ∧
  sp [x, y] H (fun r H' => ∃ b : Bool, r = .bl b ∧ Q (.bl (if neg = true then !b else b)) H') E0
theorem op_eqI (F : FnOk X.prog X.w X.K X.mg X.base CX0 n f fd ps sp) (hb : L2.Binds X.K fd ps []) (hs : PySem.W.findIn X.K (.ref C) "__eq__" = some (some (.ref f))) (hf : PySem.W.isFn X.K (.ref f) = true) (hr : Room n X.A) :
    OpR X (compareOp .Eq) (rOwnEq X.K C sp false) := by
  intro pins s z H x y v u Q I rx ry h
  obtain ⟨a, dx, fs, t, rfl, ha, ty, nf, q⟩ := h
  cases (show v = Value.ref a from rx)
  obtain ⟨mA, J, _⟩ := ins_get I.hok ha
  obtain ⟨od, J, _⟩ := J.look
  obtain ⟨m, hF⟩ := I.fr
  obtain ⟨P, Z, p, _⟩ := kit_of I ry ty
  show wpAny _ X.A (richCompare .Eq (.ref a) u) _ _ s
  refine PySem.W.cmp_K (op := .Eq) (tb := t) hr.units0 hF I.ok.mod.kin J (Z.ty _ _ I.kIn p) nf hs hf ?_
  refine wpAny_mono (call_below F hb hr rfl I (show Vals [V.ref a, y] [Value.ref a, u] from .cons rfl (.cons ry .nil)) q) (fun w s' e => ?_) fun _ _ e => e
  obtain ⟨r, H', I', rr, b, rfl, qz⟩ := e
  cases (show w = Value.bool b from rr)
  exact ⟨.bl b, H', I', rfl, qz⟩
end
section
variable {M : Model} {A : Around} {E : Value → Shared → Prop} {s : Shared} {K : PySem.W.Frag} {x C : Addr} {ox : Obj} {od : Option Obj} {name : Str} {id : String}
theorem ifBound_B {args : List Value} {Q : Option Value → Shared → Prop} (Xk : K.In s.heap) (I : PySem.W.InstAt s.heap x ox C od) (hs : PySem.W.findIn K (.ref C) name = some (some (.builtin id)))
    (bd : ∀ self, bindSpecial (.builtin id) self = pure (.builtin id, [self])) (h : wpAny M A (call (.builtin id) (.ref x :: args)) (fun v => Q (some v)) E s) : wpAny M A (callSpecialIfBound? (.ref x) name args) Q E s := by
  simp only [callSpecialIfBound?, bindSpecialIfBound?]
  refine wpAny_holding (wpAny_bind (wpAny_bind (wpAny_bind (I.type.here ((PySem.W.looks_findIn Xk hs).here ?_)))))
  simp only [bd]
  refine wpAny_bind (wpAny_askSetting (wpAny_ite ?_))
  have done : wpAny M A (call (.builtin id) ([.ref x] ++ args) >>= fun v => pure (some v)) Q E s := wpAny_bind (wpAny_mono h (fun v s' q => wpAny_pure q) fun _ _ q => q)
  split
  · exact wpAny_bind (wpAny_pure (wpAny_pure done))
  · exact wpAny_tryCatch (wpAny_bind (wpAny_pure (wpAny_pure done)))
end
section
variable {prog : Program} {w : World} {A : Around} {E : Value → Shared → Prop} {s : Shared} {K : PySem.W.Frag} {x C f : Addr} {ox : Obj} {od : Option Obj} {u tb : Value}
theorem ne_below {Q : Value → Shared → Prop} (hu : A.units + 1 < cLine) (Xk : K.In s.heap) (I : PySem.W.InstAt s.heap x ox C od) (hb : PySem.W.Looks (model prog w) s.heap (typeOf u) tb) (hn : PySem.W.notFirst K C tb = true)
    (hs : PySem.W.findIn K (.ref C) "__ne__" = some (some (.builtin "object.__ne__"))) (he : PySem.W.findIn K (.ref C) "__eq__" = some (some (.ref f))) (hf : PySem.W.isFn K (.ref f) = true) (hm : PySem.W.mroIn K C (.type "object") = some true)
    (h : wpAny (model prog w) A.in1 (call (.ref f) [.ref x, u]) (fun v s' => ∃ b, v = .bool b ∧ Q (.bool (!b)) s') E s) : wpAny (model prog w) A (richCompare .NotEq (.ref x) u) Q E s := by
  have sub : PySem.W.Looks (model prog w) s.heap (isInstance (.ref x) (.type "object")) true := I.type.andThen (PySem.W.looks_mroIn Xk hm)
  have inner : wpAny (model prog w) A.in1 (Builtin.«object.__ne__» ⟨[.ref x, u], []⟩) (fun fin s' => ∃ v, fin = .done (.ret v) ∧ v ≠ .notImplemented ∧ Q v s') E s := by
    unfold Builtin.«object.__ne__»
    repeat (first
      | with_reducible refine wpAny_cRoomFor (show A.in1.units < cLine from hu) ?_
      | (refine wpAny_bind (m := callSpecialIfBound? (.ref x) (Str.ofString "__eq__") [u])
          (PySem.W.ifBound_K Xk I he hf (wpAny_mono h (fun r s' hr => by
            obtain ⟨b, rfl, hq⟩ := hr
            repeat (first | exact ⟨_, rfl, (fun e => nomatch e), hq⟩ | exact wpAny_pure ⟨_, rfl, (fun e => nomatch e), hq⟩ | (refine wpAny_bind (m := truthy (.bool _)) (wpAny_truthy_bool ?_)) | wp_step)) fun _ _ e => e)))
      | wp_step)
  have one : wpAny (model prog w) A (tryCompare (.ref x) (cmpInfo .NotEq).2.1 u) (fun r s' => ∃ v, r = some v ∧ Q v s') E s := by
    unfold tryCompare
    refine wpAny_bind (ifBound_B Xk I hs F.slot_object_ne.bind (wpAny_call (codeAny_call_builtin F.slot_object_ne.plain F.cmpEntry_ne
      (@PySem.W.check_slot (model prog w) _ _ s "object.__ne__" "object" "__ne__" (.ref x) [u] [] _ F.cmpKind_ne F.cmpSplit_ne sub (F.cmpArgs_ne _ _) (wpAny_mono inner (fun fin s' q => ?_) fun _ _ q => q)))))
    obtain ⟨v, rfl, nv, q⟩ := q
    cases v <;> first | exact absurd rfl nv | exact wpAny_pure ⟨_, rfl, q⟩ | exact ⟨_, rfl, wpAny_pure ⟨_, rfl, q⟩⟩
  unfold richCompare
  simp only [oneThing_ref]
  refine wpAny_holding (wpAny_bind (wpAny_cRoomFor (Nat.lt_of_succ_lt hu) ?_))
  refine wpAny_bind (I.type.here (wpAny_bind (hb.here ?_)))
  split
  · rename_i q
    have e : PySem.W.subIn K tb (.ref C) = some false := by
      rcases Bool.or_eq_true_iff.mp hn with e | e
      · rw [beq_iff_eq.mp e] at q
        simp at q
      · exact beq_iff_eq.mp e
    refine wpAny_bind ((PySem.W.looks_subIn Xk e).here ?_)
    simp only [Bool.false_eq_true, if_false]
    refine wpAny_bind (wpAny_mono one (fun r s' y => ?_) fun _ _ e => e)
    obtain ⟨v, rfl, hq⟩ := y
    exact wpAny_pure hq
  · refine wpAny_bind (wpAny_pure ?_)
    simp only [Bool.false_eq_true, if_false]
    refine wpAny_bind (wpAny_mono one (fun r s' y => ?_) fun _ _ e => e)
    obtain ⟨v, rfl, hq⟩ := y
    exact wpAny_pure hq
end
section
variable {X : Cx} {n : Nat} {f C : Addr} {fd : FuncData} {ps : List Str} {sp : Sp}
theorem op_neI (F : FnOk X.prog X.w X.K X.mg X.base CX0 n f fd ps sp) (hb : L2.Binds X.K fd ps []) (hs : PySem.W.findIn X.K (.ref C) "__ne__" = some (some (.builtin "object.__ne__"))) (he : PySem.W.findIn X.K (.ref C) "__eq__" = some (some (.ref f)))
    (hf : PySem.W.isFn X.K (.ref f) = true) (hm : PySem.W.mroIn X.K C (.type "object") = some true) (hr : Room (n + 1) X.A) : OpR X (compareOp .NotEq) (rOwnEq X.K C sp true) := by
  intro pins s z H x y v u Q I rx ry h
  obtain ⟨a, dx, fs, t, rfl, ha, ty, nf, q⟩ := h
  cases (show v = Value.ref a from rx)
  obtain ⟨mA, J, _⟩ := ins_get I.hok ha
  obtain ⟨od, J, _⟩ := J.look
  obtain ⟨P, Z, p, _⟩ := kit_of I ry ty
  show wpAny _ X.A (richCompare .NotEq (.ref a) u) _ _ s
  refine ne_below (by have e := hr.un; omega) I.kIn J (Z.ty _ _ I.kIn p) nf hs he hf hm ?_
  refine wpAny_mono (call_below F hb hr.in1 rfl I (show Vals [V.ref a, y] [Value.ref a, u] from .cons rfl (.cons ry .nil)) q) (fun w s' e => ?_) fun _ _ e => e
  obtain ⟨r, H', I', rr, b, rfl, qz⟩ := e
  cases (show w = Value.bool b from rr)
  exact ⟨b, rfl, .bl (!b), H', I', rfl, qz⟩
end
/-! ### sorted(t), sum(t) -/
section
variable {prog : Program} {w : World} {A : Around} {E : Value → Shared → Prop} {s : Shared} {t : Addr}
theorem sorted_tup {vs : List Value} {ns : List Int} {Q : Value → Shared → Prop} (ht : s.heap.IsTuple t vs.toArray) (hi : IntsAre vs ns) (hz : vs.length ≤ sizeLine)
    (h : ∀ (h1 h' : Heap) (out : Array Value) (ns' : List Int) (e : Nat), (∀ b o, s.heap.get? b = some o → h1.get? b = some o) → (∀ b o, h1.get? b = some o → h'.get? b = some o) → h'.get? h1.objs.size = some (seqObj "list" out e) → IntsAre out.toList ns' → ns'.Perm ns → ns'.Pairwise (· ≤ ·) → Q (.ref h1.objs.size) { s with heap := h' }) :
    wpAny (model prog w) A (call (.builtin "sorted") [.ref t]) Q E s := by
  obtain ⟨o, ho, hc, n, hd⟩ := ht
  refine Calls.call_function_entry kind_sorted plain_sorted entry_sorted (args_sorted1 _) ?_
  unfold Builtin.«sorted»
  refine wpAny_bind (m := checkCount "sorted" 1 1 _) (wpAny_pure ?_)
  refine wpAny_bind (wpAny_collect_seq t (.inr rfl) ho hc hd (fun h1 kp => ?_) (by simpa using hz))
  have e1 : vs.toArray.toList = vs := by simp
  rw [e1]
  refine wpAny_bind (wpAny_newList ?_)
  have at0 : (h1.push (seqObj "list" vs.toArray 0)).get? h1.objs.size = some (seqObj "list" vs.toArray 0) := Heap.get?_push_size _ rfl
  show wpAny _ _ _ _ _ { s with heap := h1.push (seqObj "list" vs.toArray 0) }
  refine wpAny_bind (wpAny_holding (wpAny_call_entry slot_list_sort ⟨_, at0, rfl⟩ entry_list_sort (list_sort_treeAny at0 hi hz fun out ns' a1 a2 a3 => ⟨_, rfl, ?_⟩) (args_list_sort _)))
  obtain ⟨e, he⟩ := sortedHeap_at (out := out) at0
  exact wpAny_pure ⟨_, rfl, h h1 _ out ns' e kp (fun b u hb => by
    have lt := Heap.lt_size hb
    rw [sortedHeap_old (Nat.ne_of_lt lt) (by rw [size_push']; exact Nat.lt_succ_of_lt lt)]
    exact Heap.get?_push_of_some _ hb) he a1 a2 a3⟩
theorem sum_tup {its : List Value} {ns : List Int} {Q : Value → Shared → Prop} (hh : A.handled = none) (ht : s.heap.IsTuple t its.toArray) (hi : IntsAre its ns)
    (h : ∀ h' tk t', (∀ b o, s.heap.get? b = some o → h'.get? b = some o) → Q (.int ns.sum t') { s with heap := h', toks := tk }) : wpAny (model prog w) A (call (.builtin "sum") [.ref t]) Q E s := by
  obtain ⟨xs, e⟩ := hi.allInts.items
  have hn : numsOf (intItems xs).toList = ns := by rw [← e]; exact hi.numsOf
  rw [nums_intItems] at hn
  rw [e] at ht
  have lt : t < s.heap.objs.size := by obtain ⟨_, q, _⟩ := ht; exact Heap.lt_size q
  refine call_sum_walkG (wpAny_pyIter_tuple ht ?_)
  refine ⟨_, _, _, _, _, _, numAt xs, rfl, Walks.tuple (A := A.in1) hh _ t (Nat.ne_of_lt lt) (intItems xs), ⟨⟨_, Heap.get?_push_size _ rfl, rfl, rfl⟩, ht.push _⟩, fun b hb => ?_, (fun _ _ => intItems_at), fun h' tk t' hk => ?_⟩
  · show b < (s.heap.push _).objs.size
    rw [Heap.size_push]
    rcases List.mem_cons.mp hb with rfl | hb
    · exact Nat.lt_succ_self _
    · rw [List.mem_singleton.mp hb]
      exact Nat.lt_succ_of_lt lt
  · have old : ∀ b o, s.heap.get? b = some o → h'.get? b = some o := fun b o q => by
      refine hk b o (fun hm => ?_) (Heap.get?_push_of_some _ q)
      rw [List.mem_singleton.mp hm] at q
      exact absurd (Heap.lt_size q) (Nat.lt_irrefl _)
    have r := h h' tk t' old
    have e2 : (intItems xs).size = xs.size := by simp [intItems]
    rw [e2, preSum_eq, List.take_of_length_le (by simp), hn]
    exact r
end
/-- a list or a tuple -/
def SqE (K : PySem.W.Frag) (H : Hp) (a : Addr) (xs : List V) : Prop := SqL K H a xs ∨ SqT K H a xs
theorem SqE.same {K : PySem.W.Frag} {H H' : Hp} {a : Addr} {xs : List V} (h : SqE K H a xs) (s : Same H H') : SqE K H' a xs := by
  rcases h with h | (h | ⟨o, h⟩) | h
  · exact .inl (s.seq h)
  · exact .inr (.inl (.inl (s _ _ h)))
  · exact .inr (.inl (.inr ⟨o, s _ _ h⟩))
  · exact .inr (.inr h)
section
variable {X : Cx}
/-- sorted of ints, a list or a tuple, of any length -/
def rSortedE (K : PySem.W.Frag) : List V → Hp → VK → Prop := fun vs H Q => ∃ (a : Addr) (ns : List Int), vs = [V.ref a] ∧ SqE K H a (ns.map V.int) ∧
  ∀ (ns' : List Int) (p : Addr), ns'.Perm ns → ns'.Pairwise (· ≤ ·) → H p = none → Q (.ref p) (upd H p (.lst (ns'.map V.int)))
theorem cr_sortedE : CallR X (.builtin "sorted") (rSortedE X.K) := by
  intro pins s z H vs us Q I r h
  obtain ⟨a, ns, rfl, hs, q⟩ := h
  rw [Vals.ref1 r]
  rcases hs with hs | hs
  · obtain ⟨its, rv, hl, hz⟩ := I.list hs
    have hi := rv.ints
    have ln := rv.length
    refine PyProof.Rows.sorted_intsAny hl.isList hi (by omega) fun out ns' h1 h2 h3 => ?_
    obtain ⟨ep, he⟩ := PyProof.Rows.sortedAll_at s.heap its out
    have hlen : (ns'.map V.int).length ≤ sizeLine := by rw [List.length_map, h2.length_eq]; rw [List.length_map] at hz; exact hz
    exact ⟨.ref _, upd H (s.heap.objs.size + 1) (.lst (ns'.map V.int)), I.laid (t' := s.toks) (fun _ _ => PyProof.Rows.sortedAll_old) (Nat.le_succ _) ⟨hlen, out.toList, ep, vals_of_ints h1, he⟩, rfl, q ns' _ h2 h3 (I.hok.fresh (Nat.le_succ _))⟩
  · obtain ⟨its, rv, hl, hz⟩ := I.tuple hs
    have hi := rv.ints
    have ln := rv.length
    refine sorted_tup (show s.heap.IsTuple a its.toArray from hl) hi (by omega) fun h1 h' out ns' e k1 k2 at_ i1 i2 i3 => ?_
    have hlen : (ns'.map V.int).length ≤ sizeLine := by rw [List.length_map, i2.length_eq]; rw [List.length_map] at hz; exact hz
    have I1 : Inv X pins z H { s with heap := h1 } := I.kept (t' := s.toks) k1
    exact ⟨.ref _, upd H h1.objs.size (.lst (ns'.map V.int)), I1.laid (t' := s.toks) k2 (Nat.le_refl _) ⟨hlen, out.toList, e, vals_of_ints i1, at_⟩, rfl, q ns' _ i2 i3 (I1.hok.fresh (Nat.le_refl _))⟩
def rSumE (K : PySem.W.Frag) : List V → Hp → VK → Prop := fun vs H Q => ∃ (a : Addr) (ns : List Int), vs = [V.ref a] ∧ SqE K H a (ns.map V.int) ∧ Q (.int ns.sum) H
theorem cr_sumE (hc : X.calm = true) : CallR X (.builtin "sum") (rSumE X.K) := by
  intro pins s z H vs us Q I r h
  obtain ⟨a, ns, rfl, hs, q⟩ := h
  rcases hs with hs | hs
  · exact cr_sum hc pins s z H _ us Q I r ⟨a, ns, rfl, hs, q⟩
  · obtain ⟨its, rv, hl, _⟩ := I.tuple hs
    rw [Vals.ref1 r]
    exact sum_tup (I.ok.hd hc) (show s.heap.IsTuple a its.toArray from hl) rv.ints fun h' tk t' hk => ⟨.int _, H, I.kept hk, ⟨_, rfl⟩, q⟩
end
end Gen
namespace Gen
open PySem PySem.Spec PyProof.Rows L2
/-- an own class as the top has written it -/
structure Own (K : PySem.W.Frag) (mg : Str → Option Value) (x : Str) (C : Addr) : Prop where
  gC : mg x = some (.ref C)
  cl : Cls K C
  mkI : PySem.W.makesIn K C = true
  kp : PySem.W.keepIn K (.ref C) = true
  ha : PySem.W.findIn K (.ref C) "__class__" = some (some (.builtin "object.__class__"))
  hn : PySem.W.specialIn K (.builtin "object.__class__") "__get__" = some (some (.builtin "getset_descriptor.__get__"))
  ht : PySem.W.takesIn K (.builtin "object.__class__") = some true
  hm : PySem.W.mroIn K C (.type "object") = some true
  ci : PySem.W.isClsIn K C = true
  ct : PySem.W.typeIn K (.ref C) = some (.type "type")
  ne : PySem.W.findIn K (.ref C) "__ne__" = some (some (.builtin "object.__ne__"))
def OwnI (K : PySem.W.Frag) (qual : Str) (st : Stmt) (ps : List Str) (C : Addr) : Prop := ∃ f fd, Fun K "__init__" qual st f fd ∧ Binds K fd ps [] ∧ Mk K C f
def OwnE (K : PySem.W.Frag) (qual : Str) (st : Stmt) (ps : List Str) (C : Addr) : Prop :=
  ∃ f fd, Fun K "__eq__" qual st f fd ∧ Binds K fd ps [] ∧ PySem.W.findIn K (.ref C) "__eq__" = some (some (.ref f)) ∧ PySem.W.isFn K (.ref f) = true
section
variable {K : PySem.W.Frag} {mg : Str → Option Value} {x : Str} {C : Addr} {H : Hp}
theorem Own.ty (o : Own K mg x C) {a dx : Addr} {fs : List (Str × V)} (h : H a = some (.ins C dx fs)) : TyX K H (.ref a) (.ref C) := .base (.ins h o.cl o.ha o.hn o.ht o.hm)
theorem nf_self : PySem.W.notFirst K C (.ref C) = true := by
  unfold PySem.W.notFirst
  rw [show (Value.ref C == Value.ref C) = true from beq_self_eq_true _]
  rfl
theorem nf_tup : PySem.W.notFirst K C (.type "tuple") = true := rfl
theorem nf_non : PySem.W.notFirst K C (.type "NoneType") = true := rfl
theorem Own.kit_self (o : Own K mg x C) : PySem.W.kitOne K (.ref C) (.ref C) = some true := by
  unfold PySem.W.kitOne
  rw [if_pos (beq_self_eq_true _)]
theorem Own.kit_ty (o : Own K mg x C) {T : String} (h : PySem.W.subIn K (.type T) (.ref C) = some false) : PySem.W.kitOne K (.type T) (.ref C) = some false := by
  have e : ((PySem.W.clsIn K C).isSome && PySem.W.typeIn K (.ref C) == some (.type "type")) = true := by
    have a : (PySem.W.clsIn K C).isSome = true := o.ci
    rw [a, o.ct]
    rfl
  show (if _ then _ else (if _ then _ else none)) = some false
  rw [if_neg (fun z => by cases z), if_pos e]
  exact h
theorem sub_tup : PySem.W.subIn K (.type "tuple") (.ref C) = some false := rfl
theorem sub_non : PySem.W.subIn K (.type "NoneType") (.ref C) = some false := rfl
/-- isinstance(x, C) of an instance, a tuple, None -/
theorem isi_self (o : Own K mg x C) {a dx : Addr} {fs : List (Str × V)} {Q : VK} (h : H a = some (.ins C dx fs)) (q : Q (.bl true) H) : rIsi K [.ref a, .ref C] H Q :=
  ⟨_, _, _, _, true, rfl, .own _, o.ty h, o.kit_self, q⟩
theorem isi_tup_own (o : Own K mg x C) {a : Addr} {xs : List V} {Q : VK} (h : H a = some (.tup xs)) (q : Q (.bl false) H) : rIsi K [.ref a, .ref C] H Q :=
  ⟨_, _, _, _, false, rfl, .own _, .base (.tup h), o.kit_ty sub_tup, q⟩
theorem isi_non_own (o : Own K mg x C) {Q : VK} (q : Q (.bl false) H) : rIsi K [.non, .ref C] H Q :=
  ⟨_, _, _, _, false, rfl, .own _, .base .non, o.kit_ty sub_non, q⟩
/-- how an instance with two attributes is made -/
theorem made2 {f g : Str} {C a dx : Addr} {x y : V} {H : Hp} (ha : H a = none) (hd : H dx = none) (n : dx ≠ a) : Same H (upd (upd (upd H dx (.own a)) a (.ins C dx [])) a (.ins C dx [(f, x), (g, y)])) := fun b o e => by
  rw [upd_ne (ne_of_none e ha), upd_ne (ne_of_none e ha), upd_ne (ne_of_none e hd)]
  exact e
theorem upd_at {a : Addr} {u : HO} : upd H a u a = some u := upd_same
end
end Gen
set_option Elab.async false
set_option linter.all false
set_option maxRecDepth 100000
set_option maxHeartbeats 4000000

/-! ### coins that serve, greatest first -/
namespace Gen
open PySem PySem.Spec PyProof.Rows L2
section
variable {X : Cx} {n : Nat} {f C : Addr} {fd : FuncData} {ps : List Str} {sp : Sp}
/-- the same, K named (within a comprehension) -/
theorem op_eqK {K : PySem.W.Frag} (hK : X.K = K) (F : FnOk X.prog X.w X.K X.mg X.base CX0 n f fd ps sp) (hb : L2.Binds X.K fd ps []) (hs : PySem.W.findIn X.K (.ref C) "__eq__" = some (some (.ref f))) (hf : PySem.W.isFn X.K (.ref f) = true) (hr : Room n X.A) :
    OpR X (compareOp .Eq) (rOwnEq K C sp false) := hK ▸ op_eqI F hb hs hf hr
theorem op_neK {K : PySem.W.Frag} (hK : X.K = K) (F : FnOk X.prog X.w X.K X.mg X.base CX0 n f fd ps sp) (hb : L2.Binds X.K fd ps []) (hs : PySem.W.findIn X.K (.ref C) "__ne__" = some (some (.builtin "object.__ne__"))) (he : PySem.W.findIn X.K (.ref C) "__eq__" = some (some (.ref f)))
    (hf : PySem.W.isFn X.K (.ref f) = true) (hm : PySem.W.mroIn X.K C (.type "object") = some true) (hr : Room (n + 1) X.A) : OpR X (compareOp .NotEq) (rOwnEq K C sp true) := hK ▸ op_neI F hb hs he hf hm hr
end
def Srv (p : Int) : Int → List Int → Prop
  | _, [] => True
  | r, c :: cs => c ≤ room p r ∧ Srv p (r + c) cs
def insI (c : Int) : List Int → List Int
  | [] => [c]
  | d :: ds => if c ≤ d then c :: d :: ds else d :: insI c ds
theorem insI_perm (c : Int) : ∀ l : List Int, (insI c l).Perm (c :: l)
  | [] => .refl _
  | d :: ds => by
    unfold insI
    split
    · exact .refl _
    · exact ((insI_perm c ds).cons d).trans (List.Perm.swap c d ds)
theorem insI_mem {c x : Int} {l : List Int} (h : x ∈ insI c l) : x = c ∨ x ∈ l := List.mem_cons.mp ((insI_perm c l).subset h)
theorem insI_sorted {c : Int} : ∀ {l : List Int}, l.Pairwise (· ≤ ·) → (insI c l).Pairwise (· ≤ ·)
  | [], _ => List.pairwise_cons.mpr ⟨fun _ h => absurd h List.not_mem_nil, List.Pairwise.nil⟩
  | d :: ds, h => by
    obtain ⟨h1, h2⟩ := List.pairwise_cons.mp h
    unfold insI
    split
    · rename_i e
      refine List.pairwise_cons.mpr ⟨fun x hx => ?_, h⟩
      rcases List.mem_cons.mp hx with rfl | hx
      · exact e
      · exact Int.le_trans e (h1 x hx)
    · rename_i e
      refine List.pairwise_cons.mpr ⟨fun x hx => ?_, insI_sorted h2⟩
      rcases insI_mem hx with rfl | hx
      · omega
      · exact h1 x hx
theorem room_mono {p r s : Int} (hp : 2 ≤ p) (h : r ≤ s) : room p r ≤ room p s := by
  unfold room
  have := Int.ediv_le_ediv (c := p - 1) (by omega) h
  omega
theorem Srv.mono {p : Int} (hp : 2 ≤ p) : ∀ {l : List Int} {r s : Int}, r ≤ s → Srv p r l → Srv p s l
  | [], _, _, _, _ => True.intro
  | c :: cs, r, s, h, ⟨h1, h2⟩ => ⟨Int.le_trans h1 (room_mono hp h), Srv.mono hp (by omega) h2⟩
theorem Srv.ins {p c : Int} (hp : 2 ≤ p) (c0 : 0 ≤ c) : ∀ {l : List Int} {r : Int}, Srv p r l → c ≤ room p (r + l.sum) → Srv p r (insI c l)
  | [], r, _, h => by
    rw [List.sum_nil, Int.add_zero] at h
    exact ⟨h, True.intro⟩
  | d :: ds, r, ⟨h1, h2⟩, h => by
    unfold insI
    split
    · rename_i e
      refine ⟨by omega, Int.le_trans h1 (room_mono hp (by omega)), ?_⟩
      exact Srv.mono hp (by omega) h2
    · rw [List.sum_cons, ← Int.add_assoc] at h
      exact ⟨h1, Srv.ins hp c0 h2 h⟩
theorem room_pos {p r : Int} (hp : 2 ≤ p) (r0 : 0 ≤ r) : 1 ≤ room p r := by
  unfold room
  have := Int.ediv_nonneg r0 (show 0 ≤ p - 1 by omega)
  omega
theorem grow_front {p : Int} : ∀ (k : Nat) (a : Int), grow p (k + 1) a = grow p k (a + room p a)
  | 0, _ => rfl
  | k + 1, a => by
    show grow p (k + 1) a + room p (grow p (k + 1) a) = grow p k (a + room p a) + room p (grow p k (a + room p a))
    rw [grow_front k a]
theorem grow_add {p : Int} (hp : 2 ≤ p) : ∀ (k : Nat) {a : Int}, 0 ≤ a → a + k ≤ grow p k a
  | 0, a, _ => by show a + (0 : Nat) ≤ a; omega
  | k + 1, a, h => by
    have h1 := grow_add hp k h
    have h2 := room_pos hp (show 0 ≤ grow p k a by omega)
    show a + ((k + 1 : Nat) : Int) ≤ grow p k a + room p (grow p k a)
    omega
/-- a step of the greatest coins first -/
theorem coin_step {p t l c : Int} {k : Nat} (hp : 2 ≤ p) (h1 : (k : Int) + 1 ≤ l) (h2 : l ≤ t) (h3 : t ≤ grow p (k + 1) (t - l)) (hc : c = if l - k < room p (t - l) then l - k else room p (t - l)) :
    1 ≤ c ∧ c ≤ room p (t - l) ∧ (k : Int) ≤ l - c ∧ t ≤ grow p k (t - (l - c)) := by
  have r0 := room_pos hp (show 0 ≤ t - l by omega)
  by_cases e : l - k < room p (t - l)
  · rw [if_pos e] at hc
    have g := grow_add hp k (show 0 ≤ t - (l - c) by omega)
    refine ⟨by omega, by omega, by omega, by omega⟩
  · rw [if_neg e] at hc
    rw [grow_front] at h3
    have e2 : t - (l - c) = t - l + room p (t - l) := by omega
    rw [e2]
    exact ⟨by omega, by omega, by omega, h3⟩
theorem srv_up {p c r : Int} (p0 : 2 ≤ p) (p1 : p ≤ 5) (h : c ≤ room p r) : ¬ (r + c + p - 1) / p < c := by
  unfold room at h
  have e : p = 2 ∨ p = 3 ∨ p = 4 ∨ p = 5 := by omega
  rcases e with rfl | rfl | rfl | rfl <;> omega
theorem sum_perm {a b : List Int} (h : a.Perm b) : a.sum = b.sum := by
  induction h with
  | nil => rfl
  | cons x _ ih => rw [List.sum_cons, List.sum_cons, ih]
  | swap x y l => simp only [List.sum_cons]; omega
  | trans _ _ h1 h2 => exact h1.trans h2
/-- coins so far, in some order: sorted they serve -/
structure Good (p t l : Int) (ns : List Int) : Prop where
  pos : ∀ n, n ∈ ns → 1 ≤ n
  sum : ns.sum = t - l
  srt : ∃ ms : List Int, ms.Perm ns ∧ ms.Pairwise (· ≤ ·) ∧ Srv p 0 ms
theorem Good.nil {p t : Int} : Good p t t [] := ⟨fun _ h => absurd h List.not_mem_nil, by rw [List.sum_nil]; omega, [], .refl _, List.Pairwise.nil, True.intro⟩
theorem Good.put {p t l c : Int} {ns : List Int} (hp : 2 ≤ p) (g : Good p t l ns) (c1 : 1 ≤ c) (c2 : c ≤ room p (t - l)) : Good p t (l - c) (ns ++ [c]) := by
  obtain ⟨ms, h1, h2, h3⟩ := g.srt
  have es : ms.sum = t - l := by rw [sum_perm h1]; exact g.sum
  refine ⟨fun n hn => ?_, by rw [List.sum_append, g.sum]; simp; omega, insI c ms, (insI_perm c ms).trans ((h1.cons c).trans (List.perm_append_comm (l₁ := [c]))), insI_sorted h2, Srv.ins hp (by omega) h3 (by rw [es]; rwa [Int.zero_add])⟩
  rcases List.mem_append.mp hn with h | h
  · exact g.pos n h
  · rw [List.mem_singleton.mp h]; exact c1
theorem Good.out {p t l : Int} {ns ms : List Int} (g : Good p t l ns) (h1 : ms.Perm ns) (h2 : ms.Pairwise (· ≤ ·)) : Srv p 0 ms := by
  obtain ⟨ks, k1, k2, k3⟩ := g.srt
  rw [PySem.W.os_sorted_one (h1.trans k1.symm) h2 k2]
  exact k3
theorem dp_ints {K : PySem.W.Frag} {H : Hp} : ∀ ns : List Int, DpAll K H (ns.map V.int) (ns.map PyData.int)
  | [] => .nil
  | n :: ns => .cons (.int n) (dp_ints ns)
theorem eqv_ints : ∀ ns : List Int, PyData.eqvAll (ns.map PyData.int) (ns.map PyData.int) = true
  | [] => by simp [PyData.eqvAll]
  | n :: ns => by simp [PyData.eqvAll, PyData.eqv, eqv_ints ns]
theorem eq_ints {K : PySem.W.Frag} {H : Hp} {a b : Addr} {ns : List Int} {Q : VK} (ha : SqL K H a (ns.map V.int)) (hb : SqL K H b (ns.map V.int)) (q : Q (.bl true) H) : rEqD K (.ref a) (.ref b) H Q := by
  refine ⟨_, _, .lst ha (dp_ints ns), .lst hb (dp_ints ns), PySem.W.shaped_ints ns, PySem.W.shaped_ints ns, ?_⟩
  rw [show PyData.eqv (.list (ns.map PyData.int)) (.list (ns.map PyData.int)) = true by simp only [PyData.eqv]; exact eqv_ints ns]
  exact q
theorem ne_ints {K : PySem.W.Frag} {H : Hp} {a b : Addr} {ns : List Int} {Q : VK} (ha : SqL K H a (ns.map V.int)) (hb : SqL K H b (ns.map V.int)) (q : Q (.bl false) H) : rNeD K (.ref a) (.ref b) H Q := by
  refine ⟨_, _, .lst ha (dp_ints ns), .lst hb (dp_ints ns), PySem.W.shaped_ints ns, PySem.W.shaped_ints ns, ?_⟩
  rw [show PyData.eqv (.list (ns.map PyData.int)) (.list (ns.map PyData.int)) = true by simp only [PyData.eqv]; exact eqv_ints ns]
  exact q
theorem Srv.take {p : Int} : ∀ {ns : List Int} {r c : Int} {i : Nat}, Srv p r ns → ns[i]? = some c → c ≤ room p (r + (ns.take i).sum)
  | d :: ds, r, c, 0, h, e => by
    cases e
    rw [List.take_zero, List.sum_nil, Int.add_zero]
    exact h.1
  | d :: ds, r, c, i + 1, h, e => by
    rw [List.take_succ_cons, List.sum_cons, ← Int.add_assoc]
    exact Srv.take h.2 e
end Gen
set_option Elab.async false
set_option linter.all false
set_option maxRecDepth 100000
set_option maxHeartbeats 4000000
/-! ## enumerate over a list or a tuple -/
namespace Gen
open PySem PySem.Spec PyProof.Rows L2
/-- the object that enumerate(v) is, over the iterator that stands at i -/
abbrev enO (i : Addr) : Obj := { cls := .type "enumerate", data := .fields #[.none, .bool false, .ref i, rawInt 0, .none, .none] }
theorem meets_enum_newB {t : Addr} {o : Obj} {HH : Heap → Prop} (B : Begins (.ref t) o HH) :
    Meets (Builtin.«enumerate.__new__» ⟨[.type "enumerate", .ref t], []⟩) (fun _ R s => (HH s.heap ∧ ∃ u, s.heap.get? t = some u) ∧ R (.ok (.ret (.ref (s.heap.push o).objs.size))) { s with heap := (s.heap.push o).push (enO s.heap.objs.size) }) :=
  .of_wp fun prog w A R s h => by
    obtain ⟨hp, g, d, tk, os⟩ := s
    obtain ⟨⟨hh, u, hu⟩, h⟩ := h
    have kn := sub_enumerate
    have go : ∀ {A' : Around} {E' : Value → Shared → Prop} {Q' : Value → Shared → Prop}, Q' (.ref hp.objs.size) ⟨hp.push o, g, d, tk, os⟩ → wpAny (model prog w) A' (pyIter (.ref t)) Q' E' ⟨hp, g, d, tk, os⟩ := fun q => B.iter prog w _ _ ⟨hp, g, d, tk, os⟩ _ hh q
    wp_walk using AutoSeq1.wpAny_loadPart' hu
    refine wpAny_stack_any fun z => wpAny_pure ?_
    split
    · rename_i c _ _ _ _ _
      cases (c == Value.type "enumerate") <;>
      · wp_walk using AutoSeq1.wpAny_loadPart' hu, go
        exact ⟨_, rfl, h⟩
    · wp_walk using AutoSeq1.wpAny_loadPart' hu, go
      exact ⟨_, rfl, h⟩
section
variable {prog : Program} {w : World} {A : Around} {E : Value → Shared → Prop} {s : Shared}
theorem call_enum_tup {t : Addr} {items : Array Value} {Q : Value → Shared → Prop} (ht : s.heap.IsTuple t items)
    (h : ∀ h', IsEnum h' (s.heap.objs.size + 1) s.heap.objs.size 0 .none → h'.IsTupleIter s.heap.objs.size t 0 → (∀ b o, s.heap.get? b = some o → h'.get? b = some o) → Q (.ref (s.heap.objs.size + 1)) { s with heap := h' }) :
    wpAny (model prog w) A (call (.type "enumerate") [.ref t]) Q E s := by
  have ex : ∃ u, s.heap.get? t = some u := by obtain ⟨u, hu, _⟩ := ht; exact ⟨u, hu⟩
  refine callType_new F.called_enumerate (by decide) (F.typeCall_enumerate_1 _) (F.newCall_enumerate_1 _) (fun obj => F.args_object_init_2 obj _) F.entry_enumerate_new (meets_enum_newB (begins_tuple t items)) ⟨⟨ht, ex⟩, ?_⟩
  have z : ∀ ob : Obj, (s.heap.push ob).objs.size = s.heap.objs.size + 1 := fun ob => Heap.size_push ..
  show _ ∧ _
  rw [z]
  have he := Heap.get?_push_size (s.heap.push { cls := .type "tuple_iterator", data := .fields #[.ref t, .int 0 0] }) (o := enO s.heap.objs.size) rfl
  rw [z] at he
  exact ⟨⟨_, he, rfl⟩, h _ he ⟨_, Heap.get?_push_of_some _ (Heap.get?_push_size _ rfl), rfl, rfl⟩ fun b o x => Heap.get?_push_of_some _ (Heap.get?_push_of_some _ x)⟩
end
/-- the tuple at a as it stands, each of its things in a new pair with its place -/
def Itp (K : PySem.W.Frag) (a : Addr) : It where
  go i H := ∃ (xs : List V) (x : V), SqT K H a xs ∧ xs[i]? = some x
  yld i H v H' := ∃ T x, v = .ref T ∧ H T = none ∧ H' = upd H T (.tup [.int (i : Nat), x]) ∧ ∀ xs, SqT K H a xs → xs[i]? = some x
  stop i H := ∃ xs : List V, SqT K H a xs ∧ xs.length ≤ i
theorem draws_end {P : Program} {w : World} {A : Around} (hh : A.handled = none) (it t : Addr) (items : Array Value) (i : Nat) (hi : items.size ≤ i) :
    Draws P w A it [it, t] i (fun _ _ => True) (fun j h => j = i ∧ h.IsTupleIter it t j ∧ h.IsTuple t items) where
  live := fun _ _ st => let ⟨ob, hob, _⟩ := st.2.1; ⟨ob, hob⟩
  frame := fun _ _ _ st hk => ⟨st.1, st.2.1.at fun ob q => hk it (by simp) ob q, st.2.2.at fun ob q => hk t (by simp) ob q⟩
  item := fun j s Q E hj st _ => absurd st.1 (Nat.ne_of_lt hj)
  done := fun s Q E st hE => wpAny_nextOf_tuple_end hh st.2.1 st.2.2 (by simp [hi]) hE
theorem turn_enumT {P : Program} {w : World} {K : PySem.W.Frag} {xs0 : List Expr} {k0 : Nat} {ps0 : Pos} (a e it : Addr) :
    Turn P w K (.Tuple xs0 k0 ps0) (Itp K a) [e, it] e (fun i h => (∃ last, IsEnum h e it ((i : Nat) : Int) last) ∧ h.IsTupleIter it a i ∧ e ≠ it) where
  mem := List.mem_cons_self
  obj := by
    rintro i h ⟨⟨last, q1⟩, ⟨ob, q2, _, q3⟩, _⟩ b hb
    rcases List.mem_cons.mp hb with rfl | z
    · exact ⟨_, q1, fun v n => nomatch n⟩
    · rw [List.mem_singleton] at z
      exact ⟨ob, z ▸ q2, fun v n => by rw [q3] at n; cases n⟩
  keep := by
    rintro i h h' ⟨⟨last, q1⟩, q2, q3⟩ k
    exact ⟨⟨last, k e (by simp) _ q1⟩, q2.at fun ob q => k it (by simp) ob q, q3⟩
  item := by
    intro X hP hw hK hc i pins s z H E I hf st hg
    subst hP hw hK
    obtain ⟨⟨last, q1⟩, q2, ne⟩ := st
    obtain ⟨xs, x, hq, hx⟩ := hg
    obtain ⟨its, rv, pt, _⟩ := I.tuple hq
    obtain ⟨u, hu, ru⟩ := rv.get hx
    have lte : e < s.heap.objs.size := Heap.lt_size q1
    have lti : it < s.heap.objs.size := by obtain ⟨_, q, _⟩ := q2; exact Heap.lt_size q
    have ht : s.heap.IsTuple a its.toArray := pt
    have nai : a ≠ it := by
      obtain ⟨o1, g1, g2, _⟩ := ht
      obtain ⟨o2, g3, g4, _⟩ := q2
      intro y
      rw [y, g3] at g1
      cases g1
      rw [g4] at g2
      exact absurd g2 (by decide)
    have nea : e ≠ a := by
      obtain ⟨o1, g1, g2, _⟩ := ht
      intro y
      rw [← y, q1] at g1
      cases g1
      exact absurd (show Value.type "enumerate" = Value.type "tuple" from g2) (by decide)
    have hlt : i < its.toArray.size := by
      have l1 := (List.getElem?_eq_some_iff.mp hu).1
      simpa using l1
    refine wpAny_pyNext_enum_itemD (Draws.tuple (A := X.A.in1) (I.ok.hd hc) it a nai its.toArray) q1 ⟨q2, ht⟩ hlt ne (by simp [ne, nea]) fun y h' tk hy ho st' hT _ hk => ?_
    have ey : y = u := by
      have hy' : its.toArray[i]? = some y := hy
      rw [List.getElem?_toArray, hu] at hy'
      exact (Option.some.inj hy').symm
    subst ey
    refine ⟨_, rfl, wpAny_letOwnedTupleGo_enum (s := { s with heap := h', toks := tk + 1 }) ho fun h2 he2 sb => ?_⟩
    have hT2 : h2.get? s.heap.objs.size = some { cls := .type "tuple", data := .seq #[.int i tk, y] } := (sb.2 _ (Nat.ne_of_gt lte)).trans hT
    have new : ObjOk X.prog X.w (upd H s.heap.objs.size (.tup [.int (i : Nat), x])) h2 s.heap.objs.size (.tup [.int (i : Nat), x]) :=
      ⟨(show 2 ≤ sizeLine by decide), [.int i tk, y], .cons ⟨_, rfl⟩ (.cons ru .nil), ⟨_, hT2, rfl, _, rfl⟩⟩
    have old : ∀ b ob, b ∉ [e, it] → s.heap.get? b = some ob → h2.get? b = some ob := fun b ob hb q =>
      (sb.2 b fun n => hb (by simp [n])).trans (hk b ob (fun n => hb (by simp [n])) (fun n => hb (by simp [n])) q)
    have J := I.turnedNew (t' := tk + 1) (ch := [e, it]) old hf (Nat.le_refl _) new
    refine ⟨.ref s.heap.objs.size, _, J, rfl, ⟨_, x, rfl, I.hok.fresh (Nat.le_refl _), rfl, fun ys hy2 => by rw [I.tuple_inj hy2 hq]; exact hx⟩, ⟨⟨y, ?_⟩, st'.1.at fun ob q => (sb.2 it ne.symm).trans q, ne⟩, fun b hb => ?_⟩
    · have e1 : ((i + 1 : Nat) : Int) = (i : Int) + 1 := by omega
      exact e1 ▸ he2
    · have lb : b < s.heap.objs.size := by
        rcases List.mem_cons.mp hb with n | n
        · exact n ▸ lte
        · rw [List.mem_singleton.mp n]
          exact lti
      rw [upd_ne (Nat.ne_of_lt lb)]
      exact (hf b hb).1
  done := by
    intro X hP hw hK hc i pins s z H E I hf st hg
    subst hP hw hK
    obtain ⟨⟨last, q1⟩, q2, ne⟩ := st
    obtain ⟨xs, hq, hx⟩ := hg
    obtain ⟨its, rv, pt, _⟩ := I.tuple hq
    obtain ⟨f0, f1, f2, f3, f4, f5⟩ := hf it (by simp)
    have ln := rv.length
    exact wpAny_pyNext_enum_endD (draws_end (A := X.A.in1) (I.ok.hd hc) it a its.toArray i (by simp; omega)) q1 ⟨rfl, q2, pt⟩ fun h' eb => ⟨rfl, I.turned (t' := s.toks) (fun b ob hb q => eb b ob hb q) f0 f1 f3 f4 f5⟩
  self := by
    rintro A i s Q E ⟨⟨_, q1⟩, _⟩ h
    exact wpAny_pyIter_enum q1 h
/-- enumerate(v), v a list or a tuple -/
def iEnumE (K : PySem.W.Frag) (ta : TA) : TI := fun z H R => ta z H fun vs H1 => ∃ (a : Addr) (xs : List V), vs = [.ref a] ∧ ((SqL K H1 a xs ∧ R (Ite K a) H1) ∨ (SqT K H1 a xs ∧ R (Itp K a) H1))
theorem pi_enumE {X : Cx} {e : Expr} {ta : TA} {p pos ps0 : Pos} {xs0 : List Expr} {k0 : Nat} (hg : Gl X "enumerate") (hm : X.mg "enumerate" = none) (ha : PA X [e] ta) (hst : starEach [e] X.env = [(false, eval e X.env)] := by rfl) :
    PI X (.Tuple xs0 k0 ps0) (.Call (.Name "enumerate" p) [e] [] pos) (iEnumE X.K ta) := by
  refine ⟨fun pins s z H R I h => ?_⟩
  refine Call_ (ld_blt I hg hm boot_enumerate (PyProof.Rows.callWith_type1 (thn (ha.run pos pins s z H _ I h) fun us s1 ⟨vs, H1, I1, r1, q1⟩ => ?_) hst rfl))
  obtain ⟨a, xs, rfl, hq⟩ := q1
  rw [Vals.ref1 r1]
  have far : ∀ b, b ∈ [s1.heap.objs.size + 1, s1.heap.objs.size] → s1.heap.objs.size ≤ b := by
    intro b hb
    rcases List.mem_cons.mp hb with n | n
    · omega
    · rw [List.mem_singleton] at n
      omega
  rcases hq with ⟨hq, q⟩ | ⟨hq, q⟩
  · obtain ⟨its, rv, pl, _⟩ := I1.list hq
    refine call_enumerate_list pl.isList fun h' g1 g2 _ hk => wpAny_pyIter_enum g1 ?_
    have J := I1.kept (t' := s1.toks) hk
    exact ⟨s1.heap.objs.size + 1, [s1.heap.objs.size + 1, s1.heap.objs.size], _, _, H1, rfl, J, turn_enum a (s1.heap.objs.size + 1) s1.heap.objs.size, ⟨⟨.none, g1⟩, g2, Nat.succ_ne_self _⟩, fun b hb => I1.fpOk (far b hb) (I1.hok.fresh (far b hb)), q⟩
  · obtain ⟨its, rv, pt, _⟩ := I1.tuple hq
    refine call_enum_tup (show s1.heap.IsTuple a its.toArray from pt) fun h' g1 g2 hk => wpAny_pyIter_enum g1 ?_
    have J := I1.kept (t' := s1.toks) hk
    exact ⟨s1.heap.objs.size + 1, [s1.heap.objs.size + 1, s1.heap.objs.size], _, _, H1, rfl, J, turn_enumT a (s1.heap.objs.size + 1) s1.heap.objs.size, ⟨⟨.none, g1⟩, g2, Nat.succ_ne_self _⟩, fun b hb => I1.fpOk (far b hb) (I1.hok.fresh (far b hb)), q⟩
/-- for k, x in enumerate(t), t a tuple -/
theorem for_enumT {K : PySem.W.Frag} {a : Addr} {xs : List V} {g : TG} {tb : TS} {D : Ends} {z0 : L2.St} {H : Hp} (Pv : Nat → L2.St → Hp → Prop) (h0 : Pv 0 z0 H) (hl : ∀ i z h, i ≤ xs.length → Pv i z h → SqT K h a xs)
    (hs : ∀ i x T z h, xs[i]? = some x → h T = none → Pv i z h → g (.ref T) z (upd h T (.tup [.int (i : Nat), x])) fun z2 h2 => tb { D with nx := Pv (i + 1), ct := Pv (i + 1), bk := D.nx } z2 h2) (hd : ∀ z h, Pv xs.length z h → D.nx z h) :
    ∃ W : Nat → Nat → L2.St → Hp → Prop, (∃ m, W 0 m z0 H) ∧ ∀ i m z h, W i m z h →
      ((Itp K a).stop i h ∧ D.nx z h) ∨ ((Itp K a).go i h ∧ ∃ N : L2.St → Hp → Prop, (∀ z' h', N z' h' → ∃ m', m' < m ∧ W (i + 1) m' z' h') ∧ ∀ x h', (Itp K a).yld i h x h' → g x z h' fun z2 h2 => tb { D with nx := N, ct := N, bk := D.nx } z2 h2) := by
  refine ⟨fun i m z h => m = xs.length - i ∧ i ≤ xs.length ∧ Pv i z h, ⟨xs.length, by simp, Nat.zero_le _, h0⟩, ?_⟩
  rintro i m z h ⟨rfl, hi, p⟩
  have q := hl i z h hi p
  by_cases hlt : i < xs.length
  · refine .inr ⟨⟨xs, xs[i], q, by simp [hlt]⟩, Pv (i + 1), fun z' h' p' => ⟨xs.length - (i + 1), by omega, rfl, hlt, p'⟩, fun v h' y => ?_⟩
    obtain ⟨T, x, rfl, hT, rfl, hx⟩ := y
    exact hs i x T z h (hx xs q) hT p
  · obtain rfl : i = xs.length := by omega
    exact .inl ⟨⟨xs, q, Nat.le_refl _⟩, hd z h p⟩
end Gen
set_option Elab.async false
set_option linter.all false
set_option maxRecDepth 100000
set_option maxHeartbeats 4000000
namespace My
open PySem PySem.Spec PyProof.Rows L2 Gen
/-! ### the text by places -/
def top (i : Nat) : Stmt := PySem.Challenge.pw_anyworths_k21_whole_coins_that_come_are.main.body.getD i (.Pass ⟨0, 0, 0, 0⟩)
abbrev s_i_BadPool : Stmt := inClass (top 2) 0
abbrev nm_i_BadPool : List Str := ["self", "place", "what"]
abbrev ps_i_BadPool : List Str := ["self", "place", "what"]
theorem sc_i_BadPool : FnScope nm_i_BadPool ps_i_BadPool (defScope s_i_BadPool) := ⟨rfl, rfl, rfl, by decide +kernel, rfl, by decide +kernel, by decide +kernel⟩
abbrev s_is_number : Stmt := top 9
abbrev nm_is_number : List Str := ["thing"]
abbrev ps_is_number : List Str := ["thing"]
theorem sc_is_number : FnScope nm_is_number ps_is_number (defScope s_is_number) := ⟨rfl, rfl, rfl, by decide +kernel, rfl, by decide +kernel, by decide +kernel⟩
abbrev s_is_whole : Stmt := top 10
abbrev nm_is_whole : List Str := ["thing", "low", "high"]
abbrev ps_is_whole : List Str := ["thing", "low", "high"]
theorem sc_is_whole : FnScope nm_is_whole ps_is_whole (defScope s_is_whole) := ⟨rfl, rfl, rfl, by decide +kernel, rfl, by decide +kernel, by decide +kernel⟩
abbrev s_is_row : Stmt := top 11
abbrev nm_is_row : List Str := ["thing", "least", "most"]
abbrev ps_is_row : List Str := ["thing", "least", "most"]
theorem sc_is_row : FnScope nm_is_row ps_is_row (defScope s_is_row) := ⟨rfl, rfl, rfl, by decide +kernel, rfl, by decide +kernel, by decide +kernel⟩
abbrev s_check_pool : Stmt := top 12
abbrev nm_check_pool : List Str := ["coins", "place", "coin"]
abbrev ps_check_pool : List Str := ["coins"]
theorem sc_check_pool : FnScope nm_check_pool ps_check_pool (defScope s_check_pool) := ⟨rfl, rfl, rfl, by decide +kernel, rfl, by decide +kernel, by decide +kernel⟩
abbrev s_check_people : Stmt := top 13
abbrev nm_check_people : List Str := ["people", "low"]
abbrev ps_check_people : List Str := ["people", "low"]
theorem sc_check_people : FnScope nm_check_people ps_check_people (defScope s_check_people) := ⟨rfl, rfl, rfl, by decide +kernel, rfl, by decide +kernel, by decide +kernel⟩
abbrev s_sums_ahead : Stmt := top 14
abbrev nm_sums_ahead : List Str := ["coins", "sums", "coin"]
abbrev ps_sums_ahead : List Str := ["coins"]
theorem sc_sums_ahead : FnScope nm_sums_ahead ps_sums_ahead (defScope s_sums_ahead) := ⟨rfl, rfl, rfl, by decide +kernel, rfl, by decide +kernel, by decide +kernel⟩
abbrev s_check_coin : Stmt := top 17
abbrev nm_check_coin : List Str := ["coin"]
abbrev ps_check_coin : List Str := ["coin"]
theorem sc_check_coin : FnScope nm_check_coin ps_check_coin (defScope s_check_coin) := ⟨rfl, rfl, rfl, by decide +kernel, rfl, by decide +kernel, by decide +kernel⟩
abbrev s_room_at : Stmt := top 18
abbrev nm_room_at : List Str := ["total", "people"]
abbrev ps_room_at : List Str := ["total", "people"]
theorem sc_room_at : FnScope nm_room_at ps_room_at (defScope s_room_at) := ⟨rfl, rfl, rfl, by decide +kernel, rfl, by decide +kernel, by decide +kernel⟩
abbrev s_is_serving : Stmt := top 19
abbrev nm_is_serving : List Str := ["coins", "people"]
abbrev ps_is_serving : List Str := ["coins", "people"]
theorem sc_is_serving : FnScope nm_is_serving ps_is_serving (defScope s_is_serving) := ⟨rfl, rfl, rfl, by decide +kernel, rfl, by decide +kernel, by decide +kernel⟩
abbrev s_places_above : Stmt := top 20
abbrev nm_places_above : List Str := ["coins", "people", "above", "ahead", "place", "coin"]
abbrev ps_places_above : List Str := ["coins", "people"]
theorem sc_places_above : FnScope nm_places_above ps_places_above (defScope s_places_above) := ⟨rfl, rfl, rfl, by decide +kernel, rfl, by decide +kernel, by decide +kernel⟩
abbrev s_room_row : Stmt := top 22
abbrev nm_room_row : List Str := ["pool", "people", "coins", "ahead"]
abbrev ps_room_row : List Str := ["pool", "people"]
theorem sc_room_row : FnScope nm_room_row ps_room_row (defScope s_room_row) := ⟨rfl, rfl, rfl, by decide +kernel, rfl, by decide +kernel, by decide +kernel⟩
abbrev s_fitting_coins : Stmt := top 23
abbrev nm_fitting_coins : List Str := ["pool", "people", "coins", "above", "high", "low", "place"]
abbrev ps_fitting_coins : List Str := ["pool", "people"]
theorem sc_fitting_coins : FnScope nm_fitting_coins ps_fitting_coins (defScope s_fitting_coins) := ⟨rfl, rfl, rfl, by decide +kernel, rfl, by decide +kernel, by decide +kernel⟩
abbrev s_next_coin : Stmt := top 24
abbrev nm_next_coin : List Str := ["pool", "people", "fitting"]
abbrev ps_next_coin : List Str := ["pool", "people"]
theorem sc_next_coin : FnScope nm_next_coin ps_next_coin (defScope s_next_coin) := ⟨rfl, rfl, rfl, by decide +kernel, rfl, by decide +kernel, by decide +kernel⟩
abbrev s_may_put : Stmt := top 25
abbrev nm_may_put : List Str := ["pool", "coin", "people", "coins"]
abbrev ps_may_put : List Str := ["pool", "coin", "people"]
theorem sc_may_put : FnScope nm_may_put ps_may_put (defScope s_may_put) := ⟨rfl, rfl, rfl, by decide +kernel, rfl, by decide +kernel, by decide +kernel⟩
abbrev s_l_mix : Stmt := top 27
abbrev nm_l_mix : List Str := ["_law_number", "_law_turn", "_law_once", "_law_twice"]
abbrev ps_l_mix : List Str := ["_law_number", "_law_turn"]
theorem sc_l_mix : FnScope nm_l_mix ps_l_mix (defScope s_l_mix) := ⟨rfl, rfl, rfl, by decide +kernel, rfl, by decide +kernel, by decide +kernel⟩
abbrev s_l_hand : Stmt := top 28
abbrev nm_l_hand : List Str := ["_law_script", "_law_total", "_law_k", "_law_cell"]
abbrev ps_l_hand : List Str := ["_law_script"]
theorem sc_l_hand : FnScope nm_l_hand ps_l_hand (defScope s_l_hand) := ⟨rfl, rfl, rfl, by decide +kernel, rfl, by decide +kernel, by decide +kernel⟩
abbrev s_l_draw : Stmt := top 29
abbrev nm_l_draw : List Str := ["_law_hand_here", "_law_many", "_law_cell", "_law_rest"]
abbrev ps_l_draw : List Str := ["_law_hand_here", "_law_many"]
theorem sc_l_draw : FnScope nm_l_draw ps_l_draw (defScope s_l_draw) := ⟨rfl, rfl, rfl, by decide +kernel, rfl, by decide +kernel, by decide +kernel⟩
abbrev s_l_pick : Stmt := top 30
abbrev nm_l_pick : List Str := ["_law_hand_here", "_law_things"]
abbrev ps_l_pick : List Str := ["_law_hand_here", "_law_things"]
theorem sc_l_pick : FnScope nm_l_pick ps_l_pick (defScope s_l_pick) := ⟨rfl, rfl, rfl, by decide +kernel, rfl, by decide +kernel, by decide +kernel⟩
abbrev s_l_is_whole : Stmt := top 31
abbrev nm_l_is_whole : List Str := ["_law_thing"]
abbrev ps_l_is_whole : List Str := ["_law_thing"]
theorem sc_l_is_whole : FnScope nm_l_is_whole ps_l_is_whole (defScope s_l_is_whole) := ⟨rfl, rfl, rfl, by decide +kernel, rfl, by decide +kernel, by decide +kernel⟩
abbrev s_l_up : Stmt := top 32
abbrev nm_l_up : List Str := ["_law_total", "_law_people"]
abbrev ps_l_up : List Str := ["_law_total", "_law_people"]
theorem sc_l_up : FnScope nm_l_up ps_l_up (defScope s_l_up) := ⟨rfl, rfl, rfl, by decide +kernel, rfl, by decide +kernel, by decide +kernel⟩
abbrev s_l_serves : Stmt := top 33
abbrev nm_l_serves : List Str := ["_law_coins", "_law_people", "_law_reached", "_law_coin"]
abbrev ps_l_serves : List Str := ["_law_coins", "_law_people"]
theorem sc_l_serves : FnScope nm_l_serves ps_l_serves (defScope s_l_serves) := ⟨rfl, rfl, rfl, by decide +kernel, rfl, by decide +kernel, by decide +kernel⟩
abbrev s_l_next : Stmt := top 34
abbrev nm_l_next : List Str := ["_law_total", "_law_people"]
abbrev ps_l_next : List Str := ["_law_total", "_law_people"]
theorem sc_l_next : FnScope nm_l_next ps_l_next (defScope s_l_next) := ⟨rfl, rfl, rfl, by decide +kernel, rfl, by decide +kernel, by decide +kernel⟩
abbrev s_l_odd_people : Stmt := top 35
abbrev nm_l_odd_people : List Str := ["_law_hand_here"]
abbrev ps_l_odd_people : List Str := ["_law_hand_here"]
theorem sc_l_odd_people : FnScope nm_l_odd_people ps_l_odd_people (defScope s_l_odd_people) := ⟨rfl, rfl, rfl, by decide +kernel, rfl, by decide +kernel, by decide +kernel⟩
abbrev s_l_pool : Stmt := top 36
abbrev nm_l_pool : List Str := ["_law_hand_here", "_law_people", "_law_most", "_law_many", "_law_turn", "_law_coins", "_law_k", "_law_coin", "_law_place", "_law_times"]
abbrev ps_l_pool : List Str := ["_law_hand_here", "_law_people", "_law_most"]
theorem sc_l_pool : FnScope nm_l_pool ps_l_pool (defScope s_l_pool) := ⟨rfl, rfl, rfl, by decide +kernel, rfl, by decide +kernel, by decide +kernel⟩
abbrev s_l_robbed : Stmt := top 37
abbrev nm_l_robbed : List Str := ["_law_hand_here", "_law_pool_here", "_law_place"]
abbrev ps_l_robbed : List Str := ["_law_hand_here", "_law_pool_here"]
theorem sc_l_robbed : FnScope nm_l_robbed ps_l_robbed (defScope s_l_robbed) := ⟨rfl, rfl, rfl, by decide +kernel, rfl, by decide +kernel, by decide +kernel⟩
abbrev s_l_told : Stmt := top 38
abbrev nm_l_told : List Str := ["_law_name", "_law_pool_here", "_law_coin", "_law_people", "e"]
abbrev ps_l_told : List Str := ["_law_name", "_law_pool_here", "_law_coin", "_law_people"]
theorem sc_l_told : FnScope nm_l_told ps_l_told (defScope s_l_told) := ⟨rfl, rfl, rfl, by decide +kernel, rfl, by decide +kernel, by decide +kernel⟩
abbrev s_l_rooms_right : Stmt := top 39
abbrev nm_l_rooms_right : List Str := ["_law_pool_here", "_law_people", "_law_told_here", "_law_coins", "_law_k"]
abbrev ps_l_rooms_right : List Str := ["_law_pool_here", "_law_people"]
theorem sc_l_rooms_right : FnScope nm_l_rooms_right ps_l_rooms_right (defScope s_l_rooms_right) := ⟨rfl, rfl, rfl, by decide +kernel, rfl, by decide +kernel, by decide +kernel⟩
abbrev s_l_tried : Stmt := top 40
abbrev nm_l_tried : List Str := ["_law_hand_here", "_law_pool_here", "_law_people", "_law_coins", "_law_tried_here", "_law_k", "_law_reached", "_law_near", "_law_coin"]
abbrev ps_l_tried : List Str := ["_law_hand_here", "_law_pool_here", "_law_people"]
theorem sc_l_tried : FnScope nm_l_tried ps_l_tried (defScope s_l_tried) := ⟨rfl, rfl, rfl, by decide +kernel, rfl, by decide +kernel, by decide +kernel⟩
abbrev s_l_stretch_right : Stmt := top 41
abbrev nm_l_stretch_right : List Str := ["_law_hand_here", "_law_pool_here", "_law_people", "_law_told_here", "_law_coin", "_law_due", "_law_put"]
abbrev ps_l_stretch_right : List Str := ["_law_hand_here", "_law_pool_here", "_law_people"]
theorem sc_l_stretch_right : FnScope nm_l_stretch_right ps_l_stretch_right (defScope s_l_stretch_right) := ⟨rfl, rfl, rfl, by decide +kernel, rfl, by decide +kernel, by decide +kernel⟩
abbrev s_l_refusals_right : Stmt := top 42
abbrev nm_l_refusals_right : List Str := ["_law_hand_here", "_law_pool_here", "_law_people", "_law_odd_coin", "_law_odd_people_here", "_law_place", "_law_odd_pool", "_law_due", "_law_name"]
abbrev ps_l_refusals_right : List Str := ["_law_hand_here", "_law_pool_here", "_law_people"]
theorem sc_l_refusals_right : FnScope nm_l_refusals_right ps_l_refusals_right (defScope s_l_refusals_right) := ⟨rfl, rfl, rfl, by decide +kernel, rfl, by decide +kernel, by decide +kernel⟩
abbrev s_law : Stmt := top 43
abbrev nm_law : List Str := ["_law_script", "_law_hand_here", "_law_people", "_law_pool_here", "_law_most", "_law_kept"]
abbrev ps_law : List Str := ["_law_script"]
theorem sc_law : FnScope nm_law ps_law (defScope s_law) := ⟨rfl, rfl, rfl, by decide +kernel, rfl, by decide +kernel, by decide +kernel⟩
/-! ### what the top has written -/
structure Txt (K : PySem.W.Frag) (mg : Str → Option Value) (cBadPool : Addr) (cBadPeople : Addr) (cBadCoin : Addr) : Prop where
  d_is_number : Df K mg "is_number" s_is_number ps_is_number
  d_is_whole : Df K mg "is_whole" s_is_whole ps_is_whole
  d_is_row : Df K mg "is_row" s_is_row ps_is_row
  d_check_pool : Df K mg "check_pool" s_check_pool ps_check_pool
  d_check_people : DfD K mg "check_people" s_check_people ps_check_people [(V.int 1)]
  d_sums_ahead : Df K mg "sums_ahead" s_sums_ahead ps_sums_ahead
  d_check_coin : Df K mg "check_coin" s_check_coin ps_check_coin
  d_room_at : Df K mg "room_at" s_room_at ps_room_at
  d_is_serving : Df K mg "is_serving" s_is_serving ps_is_serving
  d_places_above : Df K mg "places_above" s_places_above ps_places_above
  d_room_row : Df K mg "room_row" s_room_row ps_room_row
  d_fitting_coins : Df K mg "fitting_coins" s_fitting_coins ps_fitting_coins
  d_next_coin : Df K mg "next_coin" s_next_coin ps_next_coin
  d_may_put : Df K mg "may_put" s_may_put ps_may_put
  d_l_mix : Df K mg "_law_mix" s_l_mix ps_l_mix
  d_l_hand : Df K mg "_law_hand" s_l_hand ps_l_hand
  d_l_draw : Df K mg "_law_draw" s_l_draw ps_l_draw
  d_l_pick : Df K mg "_law_pick" s_l_pick ps_l_pick
  d_l_is_whole : Df K mg "_law_is_whole" s_l_is_whole ps_l_is_whole
  d_l_up : Df K mg "_law_up" s_l_up ps_l_up
  d_l_serves : Df K mg "_law_serves" s_l_serves ps_l_serves
  d_l_next : Df K mg "_law_next" s_l_next ps_l_next
  d_l_odd_people : Df K mg "_law_odd_people" s_l_odd_people ps_l_odd_people
  d_l_pool : Df K mg "_law_pool" s_l_pool ps_l_pool
  d_l_robbed : Df K mg "_law_robbed" s_l_robbed ps_l_robbed
  d_l_told : Df K mg "_law_told" s_l_told ps_l_told
  d_l_rooms_right : Df K mg "_law_rooms_right" s_l_rooms_right ps_l_rooms_right
  d_l_tried : Df K mg "_law_tried" s_l_tried ps_l_tried
  d_l_stretch_right : Df K mg "_law_stretch_right" s_l_stretch_right ps_l_stretch_right
  d_l_refusals_right : Df K mg "_law_refusals_right" s_l_refusals_right ps_l_refusals_right
  d_law : Df K mg "law" s_law ps_law
  c_MOST_COINS : ∃ u, mg "MOST_COINS" = some u ∧ RelV (.int 12) u
  c_GREATEST_COIN : ∃ u, mg "GREATEST_COIN" = some u ∧ RelV (.int 1000000000) u
  c_MOST_PEOPLE : ∃ u, mg "MOST_PEOPLE" = some u ∧ RelV (.int 5) u
  c_LEAST_PEOPLE : ∃ u, mg "LEAST_PEOPLE" = some u ∧ RelV (.int 2) u
  n_isinstance : mg "isinstance" = none
  n_int : mg "int" = none
  n_bool : mg "bool" = none
  n_list : mg "list" = none
  n_tuple : mg "tuple" = none
  n_len : mg "len" = none
  n_enumerate : mg "enumerate" = none
  n_sorted : mg "sorted" = none
  n_max : mg "max" = none
  n_sum : mg "sum" = none
  n_abs : mg "abs" = none
  n_range : mg "range" = none
  n_set : mg "set" = none
  n_min : mg "min" = none
  y_BadPool : XI K mg "BadPool" "BadPool.__init__" s_i_BadPool ps_i_BadPool cBadPool
  x_BadPool : XfC K cBadPool
  f_BadPool_place : PySem.W.findIn K (.ref cBadPool) "place" = some none
  f_BadPool_what : PySem.W.findIn K (.ref cBadPool) "what" = some none
  y_BadPeople : XP K mg "BadPeople" cBadPeople
  y_BadCoin : XP K mg "BadCoin" cBadCoin
  m_BadPool_BadPool : PySem.W.exmOne K (.ref cBadPool) (.ref cBadPool) = some true
  m_BadPool_BadPeople : PySem.W.exmOne K (.ref cBadPool) (.ref cBadPeople) = some false
  m_BadPool_BadCoin : PySem.W.exmOne K (.ref cBadPool) (.ref cBadCoin) = some false
  m_BadPeople_BadPool : PySem.W.exmOne K (.ref cBadPeople) (.ref cBadPool) = some false
  m_BadPeople_BadPeople : PySem.W.exmOne K (.ref cBadPeople) (.ref cBadPeople) = some true
  m_BadPeople_BadCoin : PySem.W.exmOne K (.ref cBadPeople) (.ref cBadCoin) = some false
  m_BadCoin_BadPool : PySem.W.exmOne K (.ref cBadCoin) (.ref cBadPool) = some false
  m_BadCoin_BadPeople : PySem.W.exmOne K (.ref cBadCoin) (.ref cBadPeople) = some false
  m_BadCoin_BadCoin : PySem.W.exmOne K (.ref cBadCoin) (.ref cBadCoin) = some true
end My
set_option Elab.async false
set_option linter.all false
set_option maxRecDepth 100000
set_option maxHeartbeats 4000000
namespace My
open PySem PySem.Spec PyProof.Rows L2 Gen
section
variable {P : Program} {w : World} {K : PySem.W.Frag} {mg : Str → Option Value} {base : Heap} { cBadPool cBadPeople cBadCoin : Addr}
theorem ok_i_BadPool {f : Addr} {fd : FuncData} (F : Fun K "__init__" "BadPool.__init__" s_i_BadPool f fd) (T : Txt K mg cBadPool cBadPeople cBadCoin) : FnOk P w K mg base CX0 1 f fd ps_i_BadPool (spI2 K cBadPool "place" "what") := by
  refine F.ok (k := 0) sc_i_BadPool (fun vs H Q E h => by obtain ⟨_, _, _, rfl, _⟩ := h; rfl) (fun cdv A outer s H vs Q E hr h => ?_)
  refine ⟨_, (pss_cons (ps_ost (pv 0) (pv 1))
      (pss_one (ps_ost (pv 0) (pv 2)))), ?_⟩
  obtain ⟨a, v, u, rfl, ha, ox, hn, hm, q⟩ := h
  refine ⟨_, rfl, _, rfl, a, _, rfl, ox, hn, .inl ⟨ha, fun dx hx ne => ⟨_, rfl, _, rfl, a, _, rfl, ox, hm, .inr ⟨dx, [("place", v)], upd_same, by rw [upd_ne ne, upd_same], show 1 ≤ 900 by decide, q dx hx ne⟩⟩⟩⟩
def sp_is_number (_ : PySem.W.Frag) : Sp := fun vs H Q _ => ∃ x : V, vs = [x] ∧ Plain H x ∧ Q (.bl (isI x)) H
theorem len_is_number {vs H Q E} (h : sp_is_number K vs H Q E) : vs.length = 1 := by
  obtain ⟨_, rfl, _⟩ := h; rfl
theorem ok_is_number {f : Addr} {fd : FuncData} (F : Fun K "is_number" "is_number" s_is_number f fd) (T : Txt K mg cBadPool cBadPeople cBadCoin) : FnOk P w K mg base CX0 1 f fd ps_is_number (sp_is_number K) := by
  refine F.ok (k := 0) sc_is_number (fun vs H Q E h => len_is_number h) (fun cdv A outer s H vs Q E hr h => ?_)
  refine ⟨_, (pss_one (ps_ret (pe_and (pe_callB call_isi (by rfl) T.n_isinstance (by decide +kernel) (pa_cons (pv 0) (pa_cons (pe_bltn (v := .ty "int") (by rfl) T.n_int (by decide +kernel) rfl) pa_nil))) (pe_one (pe_not (pe_callB call_isi (by rfl) T.n_isinstance (by decide +kernel) (pa_cons (pv 0) (pa_cons (pe_bltn (v := .ty "bool") (by rfl) T.n_bool (by decide +kernel) rfl) pa_nil)))))))), ?_⟩
  obtain ⟨x, rfl, hp, q⟩ := h
  simp only [tSeq, tAsg, tDrop, tRet, tRetN, tIfS, tNext, tTest, tB, tNot, tAnd, tOr, tChain, tIf, tAndV, tOrV, tNotV, tOp, tUn, tCB, tCons, tNil, tVar, tC, tCall, tCallS, gName, rI, rI0, rU, rEq, rNe, tTup, tLst, gSub, rSetL, rIxL, rIxT, L2.start, List.map_cons, List.map_nil, List.length_cons, List.length_nil, Nat.reduceAdd, Nat.reduceSub, List.replicate_succ, List.replicate_zero, List.getElem?_cons_zero, List.getElem?_cons_succ, List.set_cons_zero, List.set_cons_succ, Option.some.injEq, exists_eq_left', exists_eq_left, exists_and_left, V.int.injEq, V.bl.injEq, V.ref.injEq, V.str.injEq, List.cons.injEq, and_true, true_and, List.nil_append, List.cons_append, List.append_nil, reduceCtorEq, false_and, exists_false, or_false, false_or, and_false, Int.reduceNeg, decide_eq_true_eq, Bool.not_eq_true', decide_eq_false_iff_not, and_assoc, tYes, ↓reduceIte, wipe, Bool.false_eq_true, Bool.true_eq_false, cxOf, false_implies, true_implies, implies_true, forall_const]
  refine isi_int hp ?_
  cases x with
  | int i => exact ⟨true, rfl, iteT (isi_bool hp ⟨false, rfl, q⟩)⟩
  | bl i => exact ⟨true, rfl, iteT (isi_bool hp ⟨true, rfl, q⟩)⟩
  | _ => exact ⟨false, rfl, iteF q⟩
def sp_is_whole (_ : PySem.W.Frag) : Sp := fun vs H Q _ => ∃ (x : V) (lo hi : Int), vs = [x, .int lo, .int hi] ∧ Plain H x ∧ Q (.bl (whole x lo hi)) H
theorem len_is_whole {vs H Q E} (h : sp_is_whole K vs H Q E) : vs.length = 3 := by
  obtain ⟨_, _, _, rfl, _⟩ := h; rfl
theorem ok_is_whole {f : Addr} {fd : FuncData} (F : Fun K "is_whole" "is_whole" s_is_whole f fd) (T : Txt K mg cBadPool cBadPeople cBadCoin) : FnOk P w K mg base CX0 2 f fd ps_is_whole (sp_is_whole K) := by
  obtain ⟨f_is_number, fd_is_number, F_is_number, m_is_number, b_is_number⟩ := T.d_is_number
  have G_is_number : FnOk P w K mg base CX0 1 f_is_number fd_is_number ps_is_number (sp_is_number K) := ok_is_number F_is_number T
  refine F.ok (k := 1) sc_is_whole (fun vs H Q E h => len_is_whole h) (fun cdv A outer s H vs Q E hr h => ?_)
  refine ⟨_, (pss_one (ps_ret (pe_and (pe_call G_is_number (hr.mono (by decide)) (by rfl) m_is_number F_is_number.kp b_is_number .nil pass0 (pa_cons (pv 0) pa_nil)) (pe_one (pe_chain op_le op_le (pv 1) (pv 0) (pv 2)))))), ?_⟩
  obtain ⟨x, lo, hi, rfl, hp, q⟩ := h
  simp only [tSeq, tAsg, tDrop, tRet, tRetN, tIfS, tNext, tTest, tB, tNot, tAnd, tOr, tChain, tIf, tAndV, tOrV, tNotV, tOp, tUn, tCB, tCons, tNil, tVar, tC, tCall, tCallS, gName, rI, rI0, rU, rEq, rNe, tTup, tLst, gSub, rSetL, rIxL, rIxT, L2.start, List.map_cons, List.map_nil, List.length_cons, List.length_nil, Nat.reduceAdd, Nat.reduceSub, List.replicate_succ, List.replicate_zero, List.getElem?_cons_zero, List.getElem?_cons_succ, List.set_cons_zero, List.set_cons_succ, Option.some.injEq, exists_eq_left', exists_eq_left, exists_and_left, V.int.injEq, V.bl.injEq, V.ref.injEq, V.str.injEq, List.cons.injEq, and_true, true_and, List.nil_append, List.cons_append, List.append_nil, reduceCtorEq, false_and, exists_false, or_false, false_or, and_false, Int.reduceNeg, decide_eq_true_eq, Bool.not_eq_true', decide_eq_false_iff_not, and_assoc, tYes, ↓reduceIte, wipe, Bool.false_eq_true, Bool.true_eq_false, cxOf, false_implies, true_implies, implies_true, forall_const, sp_is_number]
  refine ⟨hp, ?_⟩
  cases x with
  | int i =>
    refine iteT ?_
    simp only [tSeq, tAsg, tDrop, tRet, tRetN, tIfS, tNext, tTest, tB, tNot, tAnd, tOr, tChain, tIf, tAndV, tOrV, tNotV, tOp, tUn, tCB, tCons, tNil, tVar, tC, tCall, tCallS, gName, rI, rI0, rU, rEq, rNe, tTup, tLst, gSub, rSetL, rIxL, rIxT, L2.start, List.map_cons, List.map_nil, List.length_cons, List.length_nil, Nat.reduceAdd, Nat.reduceSub, List.replicate_succ, List.replicate_zero, List.getElem?_cons_zero, List.getElem?_cons_succ, List.set_cons_zero, List.set_cons_succ, Option.some.injEq, exists_eq_left', exists_eq_left, exists_and_left, V.int.injEq, V.bl.injEq, V.ref.injEq, V.str.injEq, List.cons.injEq, and_true, true_and, List.nil_append, List.cons_append, List.append_nil, reduceCtorEq, false_and, exists_false, or_false, false_or, and_false, Int.reduceNeg, decide_eq_true_eq, Bool.not_eq_true', decide_eq_false_iff_not, and_assoc, tYes, ↓reduceIte, wipe, Bool.false_eq_true, Bool.true_eq_false, cxOf, false_implies, true_implies, implies_true, forall_const]
    by_cases c : lo ≤ i
    · rw [if_pos c]
      have e : whole (.int i) lo hi = decide (i ≤ hi) := by show (decide (lo ≤ i) && decide (i ≤ hi)) = _; rw [decide_eq_true c, Bool.true_and]
      rw [e] at q
      exact q
    · rw [if_neg c]
      have e : whole (.int i) lo hi = false := by show (decide (lo ≤ i) && decide (i ≤ hi)) = _; rw [decide_eq_false c, Bool.false_and]
      rw [e] at q
      exact q
  | _ => exact iteF q
def sp_check_people (_ : PySem.W.Frag) (cP : Addr) : Sp := fun vs H Q E => ∃ (x : V) (lo : Int), vs = [x, .int lo] ∧ Plain H x ∧ (whole x lo 5 = true → Q x H) ∧ (whole x lo 5 = false → E (.ref cP) none H)
theorem len_check_people {vs H Q E} (h : sp_check_people K cBadPeople vs H Q E) : vs.length = 2 := by
  obtain ⟨_, _, rfl, _⟩ := h; rfl
theorem ok_check_people {f : Addr} {fd : FuncData} (F : FunD K "check_people" "check_people" (defArgs s_check_people) (defBody s_check_people) (defScope s_check_people) [(V.int 1)] [] f fd) (T : Txt K mg cBadPool cBadPeople cBadCoin) : FnOk P w K mg base (L2.CX P w) 3 f fd ps_check_people (sp_check_people K cBadPeople) := by
  obtain ⟨f_is_whole, fd_is_whole, F_is_whole, m_is_whole, b_is_whole⟩ := T.d_is_whole
  have G_is_whole : FnOk P w K mg base CX0 2 f_is_whole fd_is_whole ps_is_whole (sp_is_whole K) := ok_is_whole F_is_whole T
  obtain ⟨u_MOST_PEOPLE, c_MOST_PEOPLE, r_MOST_PEOPLE⟩ := T.c_MOST_PEOPLE
  refine F.ok (k := 2) sc_check_people (fun vs H Q E h => len_check_people h) (fun cdv A outer s H vs Q E hr h => ?_)
  refine ⟨_, (pss_cons (ps_if (pt_not (pt_val (pe_call G_is_whole (hr.mono (by decide)) (by rfl) m_is_whole F_is_whole.kp b_is_whole .nil pass0 (pa_cons (pv 0) (pa_cons (pv 1) (pa_cons (pe_glob rfl c_MOST_PEOPLE r_MOST_PEOPLE) pa_nil)))))) (pss_one (ps_raise rfl (takes_of rfl rfl rfl rfl) (T.y_BadPeople.made (by rfl)))) pss_nil)
      (pss_one (ps_ret (pv 0)))), ?_⟩
  obtain ⟨x, lo, rfl, hp, q1, q2⟩ := h
  simp only [tSeq, tAsg, tDrop, tRet, tRetN, tIfS, tNext, tTest, tB, tNot, tAnd, tOr, tChain, tIf, tAndV, tOrV, tNotV, tOp, tUn, tCB, tCons, tNil, tVar, tC, tCall, tCallS, gName, rI, rI0, rU, rEq, rNe, tTup, tLst, gSub, rSetL, rIxL, rIxT, L2.start, List.map_cons, List.map_nil, List.length_cons, List.length_nil, Nat.reduceAdd, Nat.reduceSub, List.replicate_succ, List.replicate_zero, List.getElem?_cons_zero, List.getElem?_cons_succ, List.set_cons_zero, List.set_cons_succ, Option.some.injEq, exists_eq_left', exists_eq_left, exists_and_left, V.int.injEq, V.bl.injEq, V.ref.injEq, V.str.injEq, List.cons.injEq, and_true, true_and, List.nil_append, List.cons_append, List.append_nil, reduceCtorEq, false_and, exists_false, or_false, false_or, and_false, Int.reduceNeg, decide_eq_true_eq, Bool.not_eq_true', decide_eq_false_iff_not, and_assoc, tYes, ↓reduceIte, wipe, Bool.false_eq_true, Bool.true_eq_false, cxOf, false_implies, true_implies, implies_true, forall_const, sp_is_whole]
  refine ⟨hp, ?_⟩
  split
  · rename_i e; exact q2 e
  · rename_i e; exact q1 (by simpa using e)
def sp_room_at (_ : PySem.W.Frag) : Sp := fun vs H Q _ => ∃ t p : Int, vs = [.int t, .int p] ∧ 2 ≤ p ∧ p ≤ 5 ∧ Q (.int (room p t)) H
theorem len_room_at {vs H Q E} (h : sp_room_at K vs H Q E) : vs.length = 2 := by
  obtain ⟨_, _, rfl, _⟩ := h; rfl
theorem ok_room_at {f : Addr} {fd : FuncData} (F : Fun K "room_at" "room_at" s_room_at f fd) (T : Txt K mg cBadPool cBadPeople cBadCoin) : FnOk P w K mg base CX0 1 f fd ps_room_at (sp_room_at K) := by
  refine F.ok (k := 0) sc_room_at (fun vs H Q E h => len_room_at h) (fun cdv A outer s H vs Q E hr h => ?_)
  refine ⟨_, (pss_one (ps_ret (pe_op op_add (pe_op op_fdivW (pv 0) (pe_op op_sub (pv 1) pe_int)) pe_int))), ?_⟩
  obtain ⟨t, p, rfl, h2, h5, q⟩ := h
  simp only [tSeq, tAsg, tDrop, tRet, tRetN, tIfS, tNext, tTest, tB, tNot, tAnd, tOr, tChain, tIf, tAndV, tOrV, tNotV, tOp, tUn, tCB, tCons, tNil, tVar, tC, tCall, tCallS, gName, rI, rI0, rU, rEq, rNe, tTup, tLst, gSub, rSetL, rIxL, rIxT, L2.start, List.map_cons, List.map_nil, List.length_cons, List.length_nil, Nat.reduceAdd, Nat.reduceSub, List.replicate_succ, List.replicate_zero, List.getElem?_cons_zero, List.getElem?_cons_succ, List.set_cons_zero, List.set_cons_succ, Option.some.injEq, exists_eq_left', exists_eq_left, exists_and_left, V.int.injEq, V.bl.injEq, V.ref.injEq, V.str.injEq, List.cons.injEq, and_true, true_and, List.nil_append, List.cons_append, List.append_nil, reduceCtorEq, false_and, exists_false, or_false, false_or, and_false, Int.reduceNeg, decide_eq_true_eq, Bool.not_eq_true', decide_eq_false_iff_not, and_assoc, tYes, ↓reduceIte, wipe, Bool.false_eq_true, Bool.true_eq_false, cxOf, false_implies, true_implies, implies_true, forall_const]
  exact ⟨cdw (by omega) (by omega), q⟩
/-- a list or a tuple that is tracked -/
def Row (H : Hp) (a : Addr) (xs : List V) : Prop := H a = some (.tup xs) ∨ H a = some (.lst xs)
theorem Row.sq {H : Hp} {a : Addr} {xs : List V} (h : Row H a xs) : SqL K H a xs ∨ SqT K H a xs := h.elim (fun e => .inr (SqT.of e)) fun e => .inl (SqL.of e)
theorem Row.same {H H' : Hp} {a : Addr} {xs : List V} (h : Row H a xs) (s : Same H H') : Row H' a xs := h.elim (fun e => .inl (s _ _ e)) fun e => .inr (s _ _ e)
theorem Row.one {H : Hp} {a : Addr} {xs ys : List V} (h : Row H a xs) (h2 : Row H a ys) : xs = ys := by
  rcases h with h | h <;> rcases h2 with h2 | h2 <;> (rw [h] at h2; cases h2) <;> rfl
theorem isiT_yes {H : Hp} {a p : Addr} {xs : List V} {Q : VK} (h : Row H a xs) (hT : H p = some (.tup [V.ty "list", V.ty "tuple"])) (q : Q (.bl true) H) : rIsiT K [.ref a, .ref p] H Q := by
  rcases h with h | h
  · exact ⟨_, _, _, _, _, true, rfl, hT, .cons (.ty _) (.cons (.ty _) .nil), .base (.tup h), kitAny_cons (b := false) (kit_ty (by decide +kernel)) (fun _ => kitAny_cons (b := true) (kit_ty (by decide +kernel)) (fun z => by cases z) fun _ => rfl) (fun z => by cases z), q⟩
  · exact ⟨_, _, _, _, _, true, rfl, hT, .cons (.ty _) (.cons (.ty _) .nil), .base (.lst h), kitAny_cons (b := true) (kit_ty (by decide +kernel)) (fun z => by cases z) (fun _ => rfl), q⟩
theorem isiT_no {H : Hp} {x : V} {p : Addr} {Q : VK} (hp : Plain H x) (n : ∀ a xs, x = .ref a → ¬ Row H a xs) (hT : H p = some (.tup [V.ty "list", V.ty "tuple"])) (q : Q (.bl false) H) : rIsiT K [x, .ref p] H Q := by
  have mk : ∀ {t : String}, TyX K H x (.type t) → kitB t "list" = some false → kitB t "tuple" = some false → rIsiT K [x, .ref p] H Q := fun ty h1 h2 =>
    ⟨_, _, _, _, _, false, rfl, hT, .cons (.ty _) (.cons (.ty _) .nil), ty, kitAny_cons (b := false) (kit_ty h1) (fun _ => kitAny_cons (b := false) (kit_ty h2) (fun _ => rfl) (fun z => by cases z)) (fun z => by cases z), q⟩
  cases x with
  | non => exact mk (.base .non) (by decide +kernel) (by decide +kernel)
  | bl b => exact mk (.base (.bl b)) (by decide +kernel) (by decide +kernel)
  | int i => exact mk (.base (.int i)) (by decide +kernel) (by decide +kernel)
  | str z => exact mk (.base (.str z)) (by decide +kernel) (by decide +kernel)
  | ref a =>
    rcases hp with ⟨xs, h⟩ | ⟨xs, h⟩ | ⟨xs, h⟩
    · exact absurd (.inl h) (n a xs rfl)
    · exact absurd (.inr h) (n a xs rfl)
    · exact mk (.base (.dK h)) (by decide +kernel) (by decide +kernel)
  | byt _ => exact hp.elim
  | flt _ => exact hp.elim
  | ty _ => exact hp.elim
def sp_is_row (_ : PySem.W.Frag) : Sp := fun vs H Q _ => ∃ (x : V) (lo hi : Int), vs = [x, .int lo, .int hi] ∧ Plain H x ∧
  ((∃ a xs, x = .ref a ∧ Row H a xs ∧ ∀ H', Same H H' → Q (.bl (decide (lo ≤ (xs.length : Int)) && decide ((xs.length : Int) ≤ hi))) H') ∨ ((∀ a xs, x = .ref a → ¬ Row H a xs) ∧ ∀ H', Same H H' → Q (.bl false) H'))
theorem len_is_row {vs H Q E} (h : sp_is_row K vs H Q E) : vs.length = 3 := by
  obtain ⟨_, _, _, rfl, _⟩ := h; rfl
theorem ok_is_row {f : Addr} {fd : FuncData} (F : Fun K "is_row" "is_row" s_is_row f fd) (T : Txt K mg cBadPool cBadPeople cBadCoin) : FnOk P w K mg base CX0 1 f fd ps_is_row (sp_is_row K) := by
  refine F.ok (k := 0) sc_is_row (fun vs H Q E h => len_is_row h) (fun cdv A outer s H vs Q E hr h => ?_)
  refine ⟨_, (pss_one (ps_ret (pe_and (pe_callB call_isiT (by rfl) T.n_isinstance (by decide +kernel) (pa_cons (pv 0) (pa_cons (pe_tup (pa_cons (pe_bltn (v := .ty "list") (by rfl) T.n_list (by decide +kernel) rfl) (pa_cons (pe_bltn (v := .ty "tuple") (by rfl) T.n_tuple (by decide +kernel) rfl) pa_nil))) pa_nil))) (pe_one (pe_chain op_le op_le (pv 1) (pe_callB call_len_seq (by rfl) T.n_len (by decide +kernel) (pa_cons (pv 0) pa_nil)) (pv 2)))))), ?_⟩
  obtain ⟨x, lo, hi, rfl, hp, k⟩ := h
  simp only [tSeq, tAsg, tDrop, tRet, tRetN, tIfS, tNext, tTest, tB, tNot, tAnd, tOr, tChain, tIf, tAndV, tOrV, tNotV, tOp, tUn, tCB, tCons, tNil, tVar, tC, tCall, tCallS, gName, rI, rI0, rU, rEq, rNe, tTup, tLst, gSub, rSetL, rIxL, rIxT, L2.start, List.map_cons, List.map_nil, List.length_cons, List.length_nil, Nat.reduceAdd, Nat.reduceSub, List.replicate_succ, List.replicate_zero, List.getElem?_cons_zero, List.getElem?_cons_succ, List.set_cons_zero, List.set_cons_succ, Option.some.injEq, exists_eq_left', exists_eq_left, exists_and_left, V.int.injEq, V.bl.injEq, V.ref.injEq, V.str.injEq, List.cons.injEq, and_true, true_and, List.nil_append, List.cons_append, List.append_nil, reduceCtorEq, false_and, exists_false, or_false, false_or, and_false, Int.reduceNeg, decide_eq_true_eq, Bool.not_eq_true', decide_eq_false_iff_not, and_assoc, tYes, ↓reduceIte, wipe, Bool.false_eq_true, Bool.true_eq_false, cxOf, false_implies, true_implies, implies_true, forall_const]
  refine ⟨by decide, fun p hq => ?_⟩
  have s := Same.new (o := HO.tup [V.ty "list", V.ty "tuple"]) hq
  have eT : upd H p (HO.tup [V.ty "list", V.ty "tuple"]) p = some (HO.tup [V.ty "list", V.ty "tuple"]) := upd_same
  generalize upd H p (HO.tup [V.ty "list", V.ty "tuple"]) = H1 at s eT ⊢
  rcases k with ⟨a, xs, rfl, hr, k⟩ | ⟨n, k⟩
  · have hr1 := hr.same s
    refine isiT_yes hr1 eT ⟨true, rfl, ?_⟩
    rw [if_pos rfl]
    refine ⟨a, rfl, xs, hr1.sq, ?_⟩
    by_cases c : lo ≤ (xs.length : Int)
    · rw [if_pos c]
      have e := k H1 s
      rw [decide_eq_true c, Bool.true_and] at e
      exact e
    · rw [if_neg c]
      have e := k H1 s
      rw [decide_eq_false c, Bool.false_and] at e
      exact e
  · refine isiT_no (hp.same s) (fun a xs e r => ?_) eT ⟨false, rfl, ?_⟩
    · subst e
      rcases hp with ⟨ys, h⟩ | ⟨ys, h⟩ | ⟨ys, h⟩
      · exact n a ys rfl (.inl h)
      · exact n a ys rfl (.inr h)
      · rcases r with r | r <;> (rw [s _ _ h] at r; cases r)
    · rw [if_neg (fun z => by cases z)]
      exact k H1 s
/-- what is handed in as a pool: plain, and what it holds is plain -/
def Arg (H : Hp) (x : V) : Prop := Plain H x ∧ ∀ a xs, x = .ref a → Row H a xs → ∀ y, y ∈ xs → Plain H y
/-- whether it is a row of at most twelve things -/
def FewRow (H : Hp) (x : V) : Prop := ∃ a xs, x = .ref a ∧ Row H a xs ∧ xs.length ≤ 12
def bad2 (i : Int) (w : Str) : HO := .xd [("what", .str w), ("place", .int i)]
theorem ints_of {m : Int} : ∀ {xs : List V}, (∀ z, z ∈ xs → whole z 1 m = true) → ∃ ns : List Int, xs = ns.map V.int ∧ ∀ n, n ∈ ns → 1 ≤ n ∧ n ≤ m
  | [], _ => ⟨[], rfl, fun _ h => absurd h List.not_mem_nil⟩
  | x :: xs, h => by
    obtain ⟨i, rfl, i0, i1⟩ := whole_of (h x List.mem_cons_self)
    obtain ⟨ns, rfl, b⟩ := ints_of fun z hz => h z (List.mem_cons_of_mem _ hz)
    refine ⟨i :: ns, rfl, fun n hn => ?_⟩
    rcases List.mem_cons.mp hn with rfl | hn
    · exact ⟨i0, i1⟩
    · exact b n hn
def sp_check_pool (_ : PySem.W.Frag) (cB : Addr) : Sp := fun vs H Q E => ∃ x : V, vs = [x] ∧ Arg H x ∧
  (¬ FewRow H x → ∀ H' d, Same H H' → H' d = none → E (.ref cB) (some d) (upd H' d (bad2 0 "many"))) ∧
  (∀ a xs (i : Nat) y, x = .ref a → Row H a xs → xs.length ≤ 12 → (∀ j z, j < i → xs[j]? = some z → whole z 1 1000000000 = true) → xs[i]? = some y → whole y 1 1000000000 = false → ∀ H' d, Same H H' → H' d = none → E (.ref cB) (some d) (upd H' d (bad2 i "coin"))) ∧
  ∀ (a : Addr) (ns : List Int), x = .ref a → Row H a (ns.map V.int) → ns.length ≤ 12 → (∀ n, n ∈ ns → 1 ≤ n ∧ n ≤ 1000000000) → ∀ (H' : Hp) (b : Addr) (ms : List Int), Same H H' → H' b = some (.tup (ms.map V.int)) → ms.Perm ns → ms.Pairwise (· ≤ ·) → Q (.ref b) H'
theorem len_check_pool {vs H Q E} (h : sp_check_pool K cBadPool vs H Q E) : vs.length = 1 := by
  obtain ⟨_, rfl, _⟩ := h; rfl
theorem ok_check_pool {f : Addr} {fd : FuncData} (F : Fun K "check_pool" "check_pool" s_check_pool f fd) (T : Txt K mg cBadPool cBadPeople cBadCoin) : FnOk P w K mg base (L2.CX P w) 3 f fd ps_check_pool (sp_check_pool K cBadPool) := by
  obtain ⟨f_is_row, fd_is_row, F_is_row, m_is_row, b_is_row⟩ := T.d_is_row
  have G_is_row : FnOk P w K mg base CX0 1 f_is_row fd_is_row ps_is_row (sp_is_row K) := ok_is_row F_is_row T
  obtain ⟨f_is_whole, fd_is_whole, F_is_whole, m_is_whole, b_is_whole⟩ := T.d_is_whole
  have G_is_whole : FnOk P w K mg base CX0 2 f_is_whole fd_is_whole ps_is_whole (sp_is_whole K) := ok_is_whole F_is_whole T
  obtain ⟨f_i_BadPool, fd_i_BadPool, F_i_BadPool, b_i_BadPool, iC_BadPool, tI_BadPool⟩ := T.y_BadPool.ini
  have G_i_BadPool : FnOk P w K mg base CX0 1 f_i_BadPool fd_i_BadPool ps_i_BadPool (spI2 K cBadPool "place" "what") := ok_i_BadPool F_i_BadPool T
  obtain ⟨u_MOST_COINS, c_MOST_COINS, r_MOST_COINS⟩ := T.c_MOST_COINS
  obtain ⟨u_GREATEST_COIN, c_GREATEST_COIN, r_GREATEST_COIN⟩ := T.c_GREATEST_COIN
  refine F.okX (k := 2) sc_check_pool (fun vs H Q E h => len_check_pool h) (fun cdv A outer s H vs Q E hr h => ?_)
  refine ⟨_, (pss_cons (ps_if (pt_not (pt_val (pe_call G_is_row (hr.mono (by decide)) (by rfl) m_is_row F_is_row.kp b_is_row .nil pass0 (pa_cons (pv 0) (pa_cons pe_int (pa_cons (pe_glob rfl c_MOST_COINS r_MOST_COINS) pa_nil)))))) (pss_one (ps_raise rfl (takes_of rfl rfl rfl rfl) (pmk_oex T.y_BadPool.ox iC_BadPool tI_BadPool G_i_BadPool (hr.mono (by decide)) b_i_BadPool .nil pass0 (by rfl) T.y_BadPool.gC (pa_cons pe_int (pa_cons pe_str pa_nil))))) pss_nil)
      (pss_cons (ps_for (passes_of rfl) rfl (pi_enumE (by rfl) T.n_enumerate (pa_cons (pv 0) pa_nil)) (pg_tup rfl (pgs_cons (pg_name (i := 1) sc_check_pool.nd rfl (Or.inl rfl)) (pgs_cons (pg_name (i := 2) sc_check_pool.nd rfl (Or.inl rfl)) pgs_nil)))
      (pss_one (ps_if (pt_not (pt_val (pe_call G_is_whole (hr.mono (by decide)) (by rfl) m_is_whole F_is_whole.kp b_is_whole .nil pass0 (pa_cons (pv 2) (pa_cons pe_int (pa_cons (pe_glob rfl c_GREATEST_COIN r_GREATEST_COIN) pa_nil)))))) (pss_one (ps_raise rfl (takes_of rfl rfl rfl rfl) (pmk_oex T.y_BadPool.ox iC_BadPool tI_BadPool G_i_BadPool (hr.mono (by decide)) b_i_BadPool .nil pass0 (by rfl) T.y_BadPool.gC (pa_cons (pv 1) (pa_cons pe_str pa_nil))))) pss_nil)))
      (pss_one (ps_ret (pe_callTy call_tuple_of (by rfl) T.n_tuple (by decide +kernel) (pa_cons (pe_callB cr_sortedE (by rfl) T.n_sorted (by decide +kernel) (pa_cons (pv 0) pa_nil)) pa_nil)))))), ?_⟩
  obtain ⟨x, rfl, hp, q1, q2, q3⟩ := h
  simp only [tSeq, tAsg, tDrop, tRet, tRetN, tIfS, tNext, tTest, tB, tNot, tAnd, tOr, tChain, tIf, tAndV, tOrV, tNotV, tOp, tUn, tCB, tCons, tNil, tVar, tC, tCall, tCallS, gName, rI, rI0, rU, rEq, rNe, tTup, tLst, gSub, rSetL, rIxL, rIxT, L2.start, List.map_cons, List.map_nil, List.length_cons, List.length_nil, Nat.reduceAdd, Nat.reduceSub, List.replicate_succ, List.replicate_zero, List.getElem?_cons_zero, List.getElem?_cons_succ, List.set_cons_zero, List.set_cons_succ, Option.some.injEq, exists_eq_left', exists_eq_left, exists_and_left, V.int.injEq, V.bl.injEq, V.ref.injEq, V.str.injEq, List.cons.injEq, and_true, true_and, List.nil_append, List.cons_append, List.append_nil, reduceCtorEq, false_and, exists_false, or_false, false_or, and_false, Int.reduceNeg, decide_eq_true_eq, Bool.not_eq_true', decide_eq_false_iff_not, and_assoc, tYes, ↓reduceIte, wipe, Bool.false_eq_true, Bool.true_eq_false, cxOf, false_implies, true_implies, implies_true, forall_const, sp_is_row]
  refine ⟨hp.1, ?_⟩
  have T0 := T
  by_cases c : ∃ a xs, x = .ref a ∧ Row H a xs
  · obtain ⟨a, xs, rfl, hr⟩ := c
    refine .inl ⟨a, rfl, xs, hr, fun H1 s => ?_⟩
    by_cases hl : xs.length ≤ 12
    case neg =>
      have e : (decide (0 ≤ (xs.length : Int)) && decide ((xs.length : Int) ≤ 12)) = false := by rw [decide_eq_false (show ¬ (xs.length : Int) ≤ 12 by omega), Bool.and_false]
      rw [if_pos e]
      refine raise2 T0.y_BadPool.ox T0.f_BadPool_place T0.f_BadPool_what fun d hd => q1 (fun f => ?_) H1 d s hd
      obtain ⟨b, ys, e1, e2, e3⟩ := f
      cases e1
      rw [Row.one hr e2] at hl
      exact hl e3
    have e : ¬ (decide (0 ≤ (xs.length : Int)) && decide ((xs.length : Int) ≤ 12)) = false := by rw [decide_eq_true (show (0 : Int) ≤ (xs.length : Int) by omega), decide_eq_true (show (xs.length : Int) ≤ 12 by omega)]; decide
    rw [if_neg e]
    refine ⟨_, rfl, a, xs, rfl, ?_⟩
    rcases hr.same s with e1 | e1
    · refine .inr ⟨SqT.of e1, for_enumT (K := K) (a := a) (xs := xs) (fun i z h => ∃ v u, z = [some (.ref a), v, u] ∧ Same H1 h ∧ ∀ j z, j < i → xs[j]? = some z → whole z 1 1000000000 = true) ⟨none, none, rfl, Same.refl H1, fun j _ hj => absurd hj (Nat.not_lt_zero j)⟩ (fun i z h _ ⟨_, _, _, s2, _⟩ => SqT.of (s2 _ _ e1)) ?_ ?_⟩
      · rintro i y T z h hi hT ⟨v, u, rfl, s2, ok⟩
        have sh := s.trans s2
        refine ⟨T, _, rfl, SqT.of upd_same, rfl, _, _, rfl, _, _, rfl, rfl, ?_⟩
        simp only [tSeq, tAsg, tDrop, tRet, tRetN, tIfS, tNext, tTest, tB, tNot, tAnd, tOr, tChain, tIf, tAndV, tOrV, tNotV, tOp, tUn, tCB, tCons, tNil, tVar, tC, tCall, tCallS, gName, rI, rI0, rU, rEq, rNe, tTup, tLst, gSub, rSetL, rIxL, rIxT, L2.start, List.map_cons, List.map_nil, List.length_cons, List.length_nil, Nat.reduceAdd, Nat.reduceSub, List.replicate_succ, List.replicate_zero, List.getElem?_cons_zero, List.getElem?_cons_succ, List.set_cons_zero, List.set_cons_succ, Option.some.injEq, exists_eq_left', exists_eq_left, exists_and_left, V.int.injEq, V.bl.injEq, V.ref.injEq, V.str.injEq, List.cons.injEq, and_true, true_and, List.nil_append, List.cons_append, List.append_nil, reduceCtorEq, false_and, exists_false, or_false, false_or, and_false, Int.reduceNeg, decide_eq_true_eq, Bool.not_eq_true', decide_eq_false_iff_not, and_assoc, tYes, ↓reduceIte, wipe, Bool.false_eq_true, Bool.true_eq_false, cxOf, false_implies, true_implies, implies_true, forall_const, sp_is_whole]
        refine ⟨((hp.2 a xs rfl hr y (List.mem_of_getElem? hi)).same sh).same (Same.new hT), ?_⟩
        split
        · rename_i w0
          exact ⟨_, rfl, raise2 T0.y_BadPool.ox T0.f_BadPool_place T0.f_BadPool_what fun d hd => q2 a xs i y rfl hr hl ok hi w0 _ d (sh.trans (Same.new hT)) hd⟩
        · rename_i w1
          refine ⟨s2.trans (Same.new hT), fun j x hj hx => ?_⟩
          rcases Nat.lt_succ_iff_lt_or_eq.mp hj with g | g
          · exact ok j x g hx
          · rw [g, hi] at hx
            cases hx
            simpa using w1
      · rintro z h ⟨v, u, rfl, s2, ok⟩
        have sh := s.trans s2
        obtain ⟨ns, rfl, nb⟩ := ints_of (m := 1000000000) fun x hx => by
          obtain ⟨j, hj, ej⟩ := List.mem_iff_getElem.mp hx
          exact ok j x hj (by rw [List.getElem?_eq_getElem hj, ej])
        simp only [tSeq, tAsg, tDrop, tRet, tRetN, tIfS, tNext, tTest, tB, tNot, tAnd, tOr, tChain, tIf, tAndV, tOrV, tNotV, tOp, tUn, tCB, tCons, tNil, tVar, tC, tCall, tCallS, gName, rI, rI0, rU, rEq, rNe, tTup, tLst, gSub, rSetL, rIxL, rIxT, L2.start, List.map_cons, List.map_nil, List.length_cons, List.length_nil, Nat.reduceAdd, Nat.reduceSub, List.replicate_succ, List.replicate_zero, List.getElem?_cons_zero, List.getElem?_cons_succ, List.set_cons_zero, List.set_cons_succ, Option.some.injEq, exists_eq_left', exists_eq_left, exists_and_left, V.int.injEq, V.bl.injEq, V.ref.injEq, V.str.injEq, List.cons.injEq, and_true, true_and, List.nil_append, List.cons_append, List.append_nil, reduceCtorEq, false_and, exists_false, or_false, false_or, and_false, Int.reduceNeg, decide_eq_true_eq, Bool.not_eq_true', decide_eq_false_iff_not, and_assoc, tYes, ↓reduceIte, wipe, Bool.false_eq_true, Bool.true_eq_false, cxOf, false_implies, true_implies, implies_true, forall_const, rSortedE]
        refine ⟨ns, (hr.same sh).sq, fun ms b p1 p2 hb => ⟨_, .inl ⟨SqL.of upd_same, fun l hl2 => ?_⟩⟩⟩
        exact q3 a ns rfl hr (by rw [List.length_map] at hl; exact hl) nb _ l ms (sh.trans ((Same.new hb).trans (Same.new hl2))) upd_same p1 p2
    · refine .inl ⟨SqL.of e1, for_enum (K := K) (a := a) (xs := xs) (fun i z h => ∃ v u, z = [some (.ref a), v, u] ∧ Same H1 h ∧ ∀ j z, j < i → xs[j]? = some z → whole z 1 1000000000 = true) ⟨none, none, rfl, Same.refl H1, fun j _ hj => absurd hj (Nat.not_lt_zero j)⟩ (fun i z h _ ⟨_, _, _, s2, _⟩ => SqL.of (s2 _ _ e1)) ?_ ?_⟩
      · rintro i y T z h hi hT ⟨v, u, rfl, s2, ok⟩
        have sh := s.trans s2
        refine ⟨T, _, rfl, SqT.of upd_same, rfl, _, _, rfl, _, _, rfl, rfl, ?_⟩
        simp only [tSeq, tAsg, tDrop, tRet, tRetN, tIfS, tNext, tTest, tB, tNot, tAnd, tOr, tChain, tIf, tAndV, tOrV, tNotV, tOp, tUn, tCB, tCons, tNil, tVar, tC, tCall, tCallS, gName, rI, rI0, rU, rEq, rNe, tTup, tLst, gSub, rSetL, rIxL, rIxT, L2.start, List.map_cons, List.map_nil, List.length_cons, List.length_nil, Nat.reduceAdd, Nat.reduceSub, List.replicate_succ, List.replicate_zero, List.getElem?_cons_zero, List.getElem?_cons_succ, List.set_cons_zero, List.set_cons_succ, Option.some.injEq, exists_eq_left', exists_eq_left, exists_and_left, V.int.injEq, V.bl.injEq, V.ref.injEq, V.str.injEq, List.cons.injEq, and_true, true_and, List.nil_append, List.cons_append, List.append_nil, reduceCtorEq, false_and, exists_false, or_false, false_or, and_false, Int.reduceNeg, decide_eq_true_eq, Bool.not_eq_true', decide_eq_false_iff_not, and_assoc, tYes, ↓reduceIte, wipe, Bool.false_eq_true, Bool.true_eq_false, cxOf, false_implies, true_implies, implies_true, forall_const, sp_is_whole]
        refine ⟨((hp.2 a xs rfl hr y (List.mem_of_getElem? hi)).same sh).same (Same.new hT), ?_⟩
        split
        · rename_i w0
          exact ⟨_, rfl, raise2 T0.y_BadPool.ox T0.f_BadPool_place T0.f_BadPool_what fun d hd => q2 a xs i y rfl hr hl ok hi w0 _ d (sh.trans (Same.new hT)) hd⟩
        · rename_i w1
          refine ⟨s2.trans (Same.new hT), fun j x hj hx => ?_⟩
          rcases Nat.lt_succ_iff_lt_or_eq.mp hj with g | g
          · exact ok j x g hx
          · rw [g, hi] at hx
            cases hx
            simpa using w1
      · rintro z h ⟨v, u, rfl, s2, ok⟩
        have sh := s.trans s2
        obtain ⟨ns, rfl, nb⟩ := ints_of (m := 1000000000) fun x hx => by
          obtain ⟨j, hj, ej⟩ := List.mem_iff_getElem.mp hx
          exact ok j x hj (by rw [List.getElem?_eq_getElem hj, ej])
        simp only [tSeq, tAsg, tDrop, tRet, tRetN, tIfS, tNext, tTest, tB, tNot, tAnd, tOr, tChain, tIf, tAndV, tOrV, tNotV, tOp, tUn, tCB, tCons, tNil, tVar, tC, tCall, tCallS, gName, rI, rI0, rU, rEq, rNe, tTup, tLst, gSub, rSetL, rIxL, rIxT, L2.start, List.map_cons, List.map_nil, List.length_cons, List.length_nil, Nat.reduceAdd, Nat.reduceSub, List.replicate_succ, List.replicate_zero, List.getElem?_cons_zero, List.getElem?_cons_succ, List.set_cons_zero, List.set_cons_succ, Option.some.injEq, exists_eq_left', exists_eq_left, exists_and_left, V.int.injEq, V.bl.injEq, V.ref.injEq, V.str.injEq, List.cons.injEq, and_true, true_and, List.nil_append, List.cons_append, List.append_nil, reduceCtorEq, false_and, exists_false, or_false, false_or, and_false, Int.reduceNeg, decide_eq_true_eq, Bool.not_eq_true', decide_eq_false_iff_not, and_assoc, tYes, ↓reduceIte, wipe, Bool.false_eq_true, Bool.true_eq_false, cxOf, false_implies, true_implies, implies_true, forall_const, rSortedE]
        refine ⟨ns, (hr.same sh).sq, fun ms b p1 p2 hb => ⟨_, .inl ⟨SqL.of upd_same, fun l hl2 => ?_⟩⟩⟩
        exact q3 a ns rfl hr (by rw [List.length_map] at hl; exact hl) nb _ l ms (sh.trans ((Same.new hb).trans (Same.new hl2))) upd_same p1 p2
  · refine .inr ⟨fun a xs e1 e2 => c ⟨a, xs, e1, e2⟩, fun H1 s => raise2 T0.y_BadPool.ox T0.f_BadPool_place T0.f_BadPool_what fun d hd => q1 (fun f => ?_) H1 d s hd⟩
    obtain ⟨b, ys, e1, e2, _⟩ := f
    exact c ⟨b, ys, e1, e2⟩
end
end My
set_option Elab.async false
set_option linter.all false
set_option maxRecDepth 100000
set_option maxHeartbeats 4000000
/-! ## rules for a K that is named: within a comprehension -/
namespace Gen
open PySem PySem.Spec PyProof.Rows L2
section
variable {X : Cx} {K : PySem.W.Frag}
theorem sl_tupAK (hK : X.K = K) : SlR X (rSlA K) := hK ▸ sl_tupA
theorem sl_listK (hK : X.K = K) : SlR X (rSlL K) := hK ▸ sl_list
theorem ix_tupK (hK : X.K = K) : IxR X (rIxT K) := hK ▸ ix_tup
theorem ix_listK (hK : X.K = K) : IxR X (rIxL K) := hK ▸ ix_list
theorem cr_sumEK (hK : X.K = K) (hc : X.calm = true) : CallR X (.builtin "sum") (rSumE K) := hK ▸ cr_sumE hc
theorem cr_sortedEK (hK : X.K = K) : CallR X (.builtin "sorted") (rSortedE K) := hK ▸ cr_sortedE
theorem op_catAK (hK : X.K = K) : OpR X (binaryOp .Add) (rCatA K) := hK ▸ op_catA
end
end Gen
set_option Elab.async false
set_option linter.all false
set_option maxRecDepth 100000
set_option maxHeartbeats 4000000
namespace My
open PySem PySem.Spec PyProof.Rows L2 Gen
section
variable {P : Program} {w : World} {K : PySem.W.Frag} {mg : Str → Option Value} {base : Heap} { cBadPool cBadPeople cBadCoin : Addr}
/-- the sums ahead of each coin, and of all -/
def sumsI (ns : List Int) (k : Nat) : List Int := (List.range (k + 1)).map fun i => (ns.take i).sum
theorem sumsI_succ (ns : List Int) (k : Nat) : sumsI ns (k + 1) = sumsI ns k ++ [(ns.take (k + 1)).sum] := by
  unfold sumsI
  rw [List.range_succ (n := k + 1), List.map_append]
  rfl
theorem sumsI_len (ns : List Int) (k : Nat) : (sumsI ns k).length = k + 1 := by
  unfold sumsI
  rw [List.length_map, List.length_range]
theorem sumsI_last (ns : List Int) : ∀ k : Nat, ∃ l, sumsI ns k = l ++ [(ns.take k).sum]
  | 0 => ⟨[], rfl⟩
  | k + 1 => ⟨_, sumsI_succ ns k⟩
def sp_sums_ahead (_ : PySem.W.Frag) : Sp := fun vs H Q _ => ∃ (a : Addr) (ns : List Int), vs = [.ref a] ∧ H a = some (.tup (ns.map V.int)) ∧ ns.length ≤ 100 ∧ ∀ (H' : Hp) (b : Addr), Same H H' → H' b = some (.lst ((sumsI ns ns.length).map V.int)) → Q (.ref b) H'
theorem len_sums_ahead {vs H Q E} (h : sp_sums_ahead K vs H Q E) : vs.length = 1 := by
  obtain ⟨_, _, rfl, _⟩ := h; rfl
theorem ok_sums_ahead {f : Addr} {fd : FuncData} (F : Fun K "sums_ahead" "sums_ahead" s_sums_ahead f fd) (T : Txt K mg cBadPool cBadPeople cBadCoin) : FnOk P w K mg base CX0 1 f fd ps_sums_ahead (sp_sums_ahead K) := by
  refine F.ok (k := 0) sc_sums_ahead (fun vs H Q E h => len_sums_ahead h) (fun cdv A outer s H vs Q E hr h => ?_)
  refine ⟨_, (pss_cons (ps_set (i := 1) sc_sums_ahead.nd rfl (Or.inl rfl) (pe_lst (pa_cons pe_int pa_nil)))
      (pss_cons (ps_for PassesOwn.never rfl (pi_tup (pv 0)) (pg_name (i := 2) sc_sums_ahead.nd rfl (Or.inl rfl))
      (pss_one (ps_expr (pe_bm PySem.F.plainAttrs_list PySem.F.slot_list_append PySem.F.type_list_append mt_append (pv 1) (pa_cons (pe_op op_add (pe_ix ix_list (pv 1) (pe_un un_neg pe_int) (fun _ _ => rfl)) (pv 2)) pa_nil)))))
      (pss_one (ps_ret (pv 1))))), ?_⟩
  obtain ⟨a, ns, rfl, ha, hn, k⟩ := h
  simp only [tSeq, tAsg, tDrop, tRet, tRetN, tIfS, tNext, tTest, tB, tNot, tAnd, tOr, tChain, tIf, tAndV, tOrV, tNotV, tOp, tUn, tCB, tCons, tNil, tVar, tC, tCall, tCallS, gName, rI, rI0, rU, rEq, rNe, tTup, tLst, gSub, rSetL, rIxL, rIxT, L2.start, List.map_cons, List.map_nil, List.length_cons, List.length_nil, Nat.reduceAdd, Nat.reduceSub, List.replicate_succ, List.replicate_zero, List.getElem?_cons_zero, List.getElem?_cons_succ, List.set_cons_zero, List.set_cons_succ, Option.some.injEq, exists_eq_left', exists_eq_left, exists_and_left, V.int.injEq, V.bl.injEq, V.ref.injEq, V.str.injEq, List.cons.injEq, and_true, true_and, List.nil_append, List.cons_append, List.append_nil, reduceCtorEq, false_and, exists_false, or_false, false_or, and_false, Int.reduceNeg, decide_eq_true_eq, Bool.not_eq_true', decide_eq_false_iff_not, and_assoc, tYes, ↓reduceIte, wipe, Bool.false_eq_true, Bool.true_eq_false, cxOf, false_implies, true_implies, implies_true, forall_const]
  refine ⟨by decide, fun D hD => ⟨_, rfl, a, rfl, ⟨_, SqT.of ((Same.new hD) _ _ ha)⟩, for_tup (K := K) (a := a) (xs := ns.map V.int) (fun i z h => ∃ v, z = [some (.ref a), some (.ref D), v] ∧ Same H h ∧ h D = some (.lst ((sumsI ns i).map V.int)))
    ⟨none, rfl, Same.new hD, upd_same⟩ (fun i z h _ ⟨_, _, s, _⟩ => SqT.of (s _ _ ha)) ?_ ?_⟩⟩
  · rintro i y z h hi ⟨v, rfl, s, eD⟩
    obtain ⟨c, hc, rfl⟩ := nat_map hi
    have il := (List.getElem?_eq_some_iff.mp hc).1
    obtain ⟨l, el⟩ := sumsI_last ns i
    simp only [tSeq, tAsg, tDrop, tRet, tRetN, tIfS, tNext, tTest, tB, tNot, tAnd, tOr, tChain, tIf, tAndV, tOrV, tNotV, tOp, tUn, tCB, tCons, tNil, tVar, tC, tCall, tCallS, gName, rI, rI0, rU, rEq, rNe, tTup, tLst, gSub, rSetL, rIxL, rIxT, L2.start, List.map_cons, List.map_nil, List.length_cons, List.length_nil, Nat.reduceAdd, Nat.reduceSub, List.replicate_succ, List.replicate_zero, List.getElem?_cons_zero, List.getElem?_cons_succ, List.set_cons_zero, List.set_cons_succ, Option.some.injEq, exists_eq_left', exists_eq_left, exists_and_left, V.int.injEq, V.bl.injEq, V.ref.injEq, V.str.injEq, List.cons.injEq, and_true, true_and, List.nil_append, List.cons_append, List.append_nil, reduceCtorEq, false_and, exists_false, or_false, false_or, and_false, Int.reduceNeg, decide_eq_true_eq, Bool.not_eq_true', decide_eq_false_iff_not, and_assoc, tYes, ↓reduceIte, wipe, Bool.false_eq_true, Bool.true_eq_false, cxOf, false_implies, true_implies, implies_true, forall_const, tBM, rAppend, rIxL]
    refine ⟨.inl ⟨rfl, _, SqL.of eD⟩, _, SqL.of eD, _, by rw [el, List.map_append]; exact atI_last _ _, _, rfl, _, eD, by rw [List.length_map, sumsI_len]; exact small1000 (by omega), fun b o e => ?_, ?_⟩
    · rw [upd_ne (ne_of_none e hD)]
      exact s b o e
    · rw [upd_same, sumsI_succ, List.map_append, L2.sum_take hc]
      rfl
  · rintro z h ⟨v, rfl, s, eD⟩
    rw [List.length_map] at eD
    exact ⟨_, rfl, k h D s eD⟩
def sp_check_coin (_ : PySem.W.Frag) (cC : Addr) : Sp := fun vs H Q E => ∃ x : V, vs = [x] ∧ Plain H x ∧ (whole x 1 1000000000 = true → Q x H) ∧ (whole x 1 1000000000 = false → E (.ref cC) none H)
theorem len_check_coin {vs H Q E} (h : sp_check_coin K cBadCoin vs H Q E) : vs.length = 1 := by
  obtain ⟨_, rfl, _⟩ := h; rfl
theorem ok_check_coin {f : Addr} {fd : FuncData} (F : Fun K "check_coin" "check_coin" s_check_coin f fd) (T : Txt K mg cBadPool cBadPeople cBadCoin) : FnOk P w K mg base (L2.CX P w) 3 f fd ps_check_coin (sp_check_coin K cBadCoin) := by
  obtain ⟨f_is_whole, fd_is_whole, F_is_whole, m_is_whole, b_is_whole⟩ := T.d_is_whole
  have G_is_whole : FnOk P w K mg base CX0 2 f_is_whole fd_is_whole ps_is_whole (sp_is_whole K) := ok_is_whole F_is_whole T
  obtain ⟨u_GREATEST_COIN, c_GREATEST_COIN, r_GREATEST_COIN⟩ := T.c_GREATEST_COIN
  refine F.okX (k := 2) sc_check_coin (fun vs H Q E h => len_check_coin h) (fun cdv A outer s H vs Q E hr h => ?_)
  refine ⟨_, (pss_cons (ps_if (pt_not (pt_val (pe_call G_is_whole (hr.mono (by decide)) (by rfl) m_is_whole F_is_whole.kp b_is_whole .nil pass0 (pa_cons (pv 0) (pa_cons pe_int (pa_cons (pe_glob rfl c_GREATEST_COIN r_GREATEST_COIN) pa_nil)))))) (pss_one (ps_raise rfl (takes_of rfl rfl rfl rfl) (T.y_BadCoin.made (by rfl)))) pss_nil)
      (pss_one (ps_ret (pv 0)))), ?_⟩
  obtain ⟨x, rfl, hp, q1, q2⟩ := h
  simp only [tSeq, tAsg, tDrop, tRet, tRetN, tIfS, tNext, tTest, tB, tNot, tAnd, tOr, tChain, tIf, tAndV, tOrV, tNotV, tOp, tUn, tCB, tCons, tNil, tVar, tC, tCall, tCallS, gName, rI, rI0, rU, rEq, rNe, tTup, tLst, gSub, rSetL, rIxL, rIxT, L2.start, List.map_cons, List.map_nil, List.length_cons, List.length_nil, Nat.reduceAdd, Nat.reduceSub, List.replicate_succ, List.replicate_zero, List.getElem?_cons_zero, List.getElem?_cons_succ, List.set_cons_zero, List.set_cons_succ, Option.some.injEq, exists_eq_left', exists_eq_left, exists_and_left, V.int.injEq, V.bl.injEq, V.ref.injEq, V.str.injEq, List.cons.injEq, and_true, true_and, List.nil_append, List.cons_append, List.append_nil, reduceCtorEq, false_and, exists_false, or_false, false_or, and_false, Int.reduceNeg, decide_eq_true_eq, Bool.not_eq_true', decide_eq_false_iff_not, and_assoc, tYes, ↓reduceIte, wipe, Bool.false_eq_true, Bool.true_eq_false, cxOf, false_implies, true_implies, implies_true, forall_const, sp_is_whole]
  refine ⟨hp, ?_⟩
  split
  · rename_i e; exact q2 e
  · rename_i e; exact q1 (by simpa using e)
/-- the places, among the first i, of the coins that are too great for what is ahead -/
def ab (p : Int) (ns : List Int) : Nat → List Int
  | 0 => []
  | i + 1 => ab p ns i ++ if room p (ns.take i).sum < ns.getD i 0 then [(i : Int)] else []
theorem ab_len (p : Int) (ns : List Int) : ∀ i, (ab p ns i).length ≤ i
  | 0 => Nat.le_refl 0
  | i + 1 => by
    have := ab_len p ns i
    unfold ab
    rw [List.length_append]
    split
    · show _ + 1 ≤ _
      omega
    · show _ + 0 ≤ _
      omega
def sp_places_above (_ : PySem.W.Frag) : Sp := fun vs H Q _ => ∃ (a : Addr) (ns : List Int) (p : Int), vs = [.ref a, .int p] ∧ Row H a (ns.map V.int) ∧ ns.length ≤ 100 ∧ 2 ≤ p ∧ p ≤ 5 ∧
  ∀ (H' : Hp) (b : Addr), Same H H' → H' b = some (.lst ((ab p ns ns.length).map V.int)) → Q (.ref b) H'
theorem len_places_above {vs H Q E} (h : sp_places_above K vs H Q E) : vs.length = 2 := by
  obtain ⟨_, _, _, rfl, _⟩ := h; rfl
theorem ok_places_above {f : Addr} {fd : FuncData} (F : Fun K "places_above" "places_above" s_places_above f fd) (T : Txt K mg cBadPool cBadPeople cBadCoin) : FnOk P w K mg base CX0 2 f fd ps_places_above (sp_places_above K) := by
  obtain ⟨f_room_at, fd_room_at, F_room_at, m_room_at, b_room_at⟩ := T.d_room_at
  have G_room_at : FnOk P w K mg base CX0 1 f_room_at fd_room_at ps_room_at (sp_room_at K) := ok_room_at F_room_at T
  refine F.ok (k := 1) sc_places_above (fun vs H Q E h => len_places_above h) (fun cdv A outer s H vs Q E hr h => ?_)
  refine ⟨_, (pss_cons (ps_set (i := 2) sc_places_above.nd rfl (Or.inl rfl) (pe_lst pa_nil))
      (pss_cons (ps_set (i := 3) sc_places_above.nd rfl (Or.inl rfl) pe_int)
      (pss_cons (ps_for PassesOwn.never rfl (pi_enumE (by rfl) T.n_enumerate (pa_cons (pv 0) pa_nil)) (pg_tup rfl (pgs_cons (pg_name (i := 4) sc_places_above.nd rfl (Or.inl rfl)) (pgs_cons (pg_name (i := 5) sc_places_above.nd rfl (Or.inl rfl)) pgs_nil)))
      (pss_cons (ps_if (pt_cmpR op_gt (pv 5) (pe_call G_room_at (hr.mono (by decide)) (by rfl) m_room_at F_room_at.kp b_room_at .nil pass0 (pa_cons (pv 3) (pa_cons (pv 1) pa_nil))) (nomark _)) (pss_one (ps_expr (pe_bm PySem.F.plainAttrs_list PySem.F.slot_list_append PySem.F.type_list_append mt_append (pv 2) (pa_cons (pv 4) pa_nil)))) pss_nil)
      (pss_one (ps_set (i := 3) sc_places_above.nd rfl (Or.inl rfl) (pe_op op_add (pv 3) (pv 5))))))
      (pss_one (ps_ret (pv 2)))))), ?_⟩
  obtain ⟨a, ns, p, rfl, ha, hn, p0, p5, k⟩ := h
  simp only [tSeq, tAsg, tDrop, tRet, tRetN, tIfS, tNext, tTest, tB, tNot, tAnd, tOr, tChain, tIf, tAndV, tOrV, tNotV, tOp, tUn, tCB, tCons, tNil, tVar, tC, tCall, tCallS, gName, rI, rI0, rU, rEq, rNe, tTup, tLst, gSub, rSetL, rIxL, rIxT, L2.start, List.map_cons, List.map_nil, List.length_cons, List.length_nil, Nat.reduceAdd, Nat.reduceSub, List.replicate_succ, List.replicate_zero, List.getElem?_cons_zero, List.getElem?_cons_succ, List.set_cons_zero, List.set_cons_succ, Option.some.injEq, exists_eq_left', exists_eq_left, exists_and_left, V.int.injEq, V.bl.injEq, V.ref.injEq, V.str.injEq, List.cons.injEq, and_true, true_and, List.nil_append, List.cons_append, List.append_nil, reduceCtorEq, false_and, exists_false, or_false, false_or, and_false, Int.reduceNeg, decide_eq_true_eq, Bool.not_eq_true', decide_eq_false_iff_not, and_assoc, tYes, ↓reduceIte, wipe, Bool.false_eq_true, Bool.true_eq_false, cxOf, false_implies, true_implies, implies_true, forall_const]
  refine ⟨Nat.zero_le _, fun D hD => ⟨_, rfl, a, ns.map V.int, rfl, ?_⟩⟩
  rcases ha with e1 | e1
  · refine .inr ⟨SqT.of ((Same.new hD) _ _ e1), for_enumT (K := K) (a := a) (xs := ns.map V.int) (fun i z h => ∃ v u, z = [some (.ref a), some (.int p), some (.ref D), some (.int (ns.take i).sum), v, u] ∧ Same H h ∧ h D = some (.lst ((ab p ns i).map V.int))) ⟨none, none, rfl, Same.new hD, upd_same⟩ (fun i z h _ ⟨_, _, _, s, _⟩ => SqT.of (s _ _ e1)) ?_ ?_⟩
    · rintro i y T1 z h hi hT ⟨v, u, rfl, s, eD⟩
      obtain ⟨c, hc, rfl⟩ := nat_map hi
      have il := (List.getElem?_eq_some_iff.mp hc).1
      have gc : ns.getD i 0 = c := by rw [List.getD_eq_getElem?_getD, hc]; rfl
      have nT : T1 ≠ D := fun x => by rw [x, eD] at hT; cases hT
      have st := Same.new (o := HO.tup [V.int (i : Nat), V.int c]) hT
      have eD2 := st _ _ eD
      refine ⟨T1, _, rfl, SqT.of upd_same, rfl, _, _, rfl, _, _, rfl, rfl, ?_⟩
      simp only [tSeq, tAsg, tDrop, tRet, tRetN, tIfS, tNext, tTest, tB, tNot, tAnd, tOr, tChain, tIf, tAndV, tOrV, tNotV, tOp, tUn, tCB, tCons, tNil, tVar, tC, tCall, tCallS, gName, rI, rI0, rU, rEq, rNe, tTup, tLst, gSub, rSetL, rIxL, rIxT, L2.start, List.map_cons, List.map_nil, List.length_cons, List.length_nil, Nat.reduceAdd, Nat.reduceSub, List.replicate_succ, List.replicate_zero, List.getElem?_cons_zero, List.getElem?_cons_succ, List.set_cons_zero, List.set_cons_succ, Option.some.injEq, exists_eq_left', exists_eq_left, exists_and_left, V.int.injEq, V.bl.injEq, V.ref.injEq, V.str.injEq, List.cons.injEq, and_true, true_and, List.nil_append, List.cons_append, List.append_nil, reduceCtorEq, false_and, exists_false, or_false, false_or, and_false, Int.reduceNeg, decide_eq_true_eq, Bool.not_eq_true', decide_eq_false_iff_not, and_assoc, tYes, ↓reduceIte, wipe, Bool.false_eq_true, Bool.true_eq_false, cxOf, false_implies, true_implies, implies_true, forall_const, sp_room_at, tBM, rAppend]
      refine ⟨p0, p5, ?_⟩
      split
      · rename_i lt
        refine ⟨.inl ⟨rfl, _, SqL.of eD2⟩, _, eD2, by rw [List.length_map]; exact small1000 (by have := ab_len p ns i; omega), (L2.sum_take hc).symm, fun b o e => ?_, ?_⟩
        · rw [upd_ne (ne_of_none e hD)]
          exact st _ _ (s b o e)
        · have ea : ab p ns (i + 1) = ab p ns i ++ [(i : Int)] := by
            show ab p ns i ++ (if room p (ns.take i).sum < ns.getD i 0 then [(i : Int)] else []) = _
            rw [gc, if_pos lt]
          rw [upd_same, ea, List.map_append]
          rfl
      · rename_i ge
        have ea : ab p ns (i + 1) = ab p ns i := by
          show ab p ns i ++ (if room p (ns.take i).sum < ns.getD i 0 then [(i : Int)] else []) = _
          rw [gc, if_neg ge, List.append_nil]
        rw [ea]
        exact ⟨(L2.sum_take hc).symm, s.trans st, eD2⟩
    · rintro z h ⟨v, u, rfl, s, eD⟩
      rw [List.length_map] at eD
      exact ⟨_, rfl, k h D s eD⟩
  · refine .inl ⟨SqL.of ((Same.new hD) _ _ e1), for_enum (K := K) (a := a) (xs := ns.map V.int) (fun i z h => ∃ v u, z = [some (.ref a), some (.int p), some (.ref D), some (.int (ns.take i).sum), v, u] ∧ Same H h ∧ h D = some (.lst ((ab p ns i).map V.int))) ⟨none, none, rfl, Same.new hD, upd_same⟩ (fun i z h _ ⟨_, _, _, s, _⟩ => SqL.of (s _ _ e1)) ?_ ?_⟩
    · rintro i y T1 z h hi hT ⟨v, u, rfl, s, eD⟩
      obtain ⟨c, hc, rfl⟩ := nat_map hi
      have il := (List.getElem?_eq_some_iff.mp hc).1
      have gc : ns.getD i 0 = c := by rw [List.getD_eq_getElem?_getD, hc]; rfl
      have nT : T1 ≠ D := fun x => by rw [x, eD] at hT; cases hT
      have st := Same.new (o := HO.tup [V.int (i : Nat), V.int c]) hT
      have eD2 := st _ _ eD
      refine ⟨T1, _, rfl, SqT.of upd_same, rfl, _, _, rfl, _, _, rfl, rfl, ?_⟩
      simp only [tSeq, tAsg, tDrop, tRet, tRetN, tIfS, tNext, tTest, tB, tNot, tAnd, tOr, tChain, tIf, tAndV, tOrV, tNotV, tOp, tUn, tCB, tCons, tNil, tVar, tC, tCall, tCallS, gName, rI, rI0, rU, rEq, rNe, tTup, tLst, gSub, rSetL, rIxL, rIxT, L2.start, List.map_cons, List.map_nil, List.length_cons, List.length_nil, Nat.reduceAdd, Nat.reduceSub, List.replicate_succ, List.replicate_zero, List.getElem?_cons_zero, List.getElem?_cons_succ, List.set_cons_zero, List.set_cons_succ, Option.some.injEq, exists_eq_left', exists_eq_left, exists_and_left, V.int.injEq, V.bl.injEq, V.ref.injEq, V.str.injEq, List.cons.injEq, and_true, true_and, List.nil_append, List.cons_append, List.append_nil, reduceCtorEq, false_and, exists_false, or_false, false_or, and_false, Int.reduceNeg, decide_eq_true_eq, Bool.not_eq_true', decide_eq_false_iff_not, and_assoc, tYes, ↓reduceIte, wipe, Bool.false_eq_true, Bool.true_eq_false, cxOf, false_implies, true_implies, implies_true, forall_const, sp_room_at, tBM, rAppend]
      refine ⟨p0, p5, ?_⟩
      split
      · rename_i lt
        refine ⟨.inl ⟨rfl, _, SqL.of eD2⟩, _, eD2, by rw [List.length_map]; exact small1000 (by have := ab_len p ns i; omega), (L2.sum_take hc).symm, fun b o e => ?_, ?_⟩
        · rw [upd_ne (ne_of_none e hD)]
          exact st _ _ (s b o e)
        · have ea : ab p ns (i + 1) = ab p ns i ++ [(i : Int)] := by
            show ab p ns i ++ (if room p (ns.take i).sum < ns.getD i 0 then [(i : Int)] else []) = _
            rw [gc, if_pos lt]
          rw [upd_same, ea, List.map_append]
          rfl
      · rename_i ge
        have ea : ab p ns (i + 1) = ab p ns i := by
          show ab p ns i ++ (if room p (ns.take i).sum < ns.getD i 0 then [(i : Int)] else []) = _
          rw [gc, if_neg ge, List.append_nil]
        rw [ea]
        exact ⟨(L2.sum_take hc).symm, s.trans st, eD2⟩
    · rintro z h ⟨v, u, rfl, s, eD⟩
      rw [List.length_map] at eD
      exact ⟨_, rfl, k h D s eD⟩
def sp_is_serving (_ : PySem.W.Frag) : Sp := fun vs H Q _ => ∃ (a : Addr) (ns : List Int) (p : Int), vs = [.ref a, .int p] ∧ Row H a (ns.map V.int) ∧ ns.length ≤ 100 ∧ 2 ≤ p ∧ p ≤ 5 ∧ ∀ H', Same H H' → Q (.bl (decide (ab p ns ns.length = []))) H'
theorem len_is_serving {vs H Q E} (h : sp_is_serving K vs H Q E) : vs.length = 2 := by
  obtain ⟨_, _, _, rfl, _⟩ := h; rfl
theorem ok_is_serving {f : Addr} {fd : FuncData} (F : Fun K "is_serving" "is_serving" s_is_serving f fd) (T : Txt K mg cBadPool cBadPeople cBadCoin) : FnOk P w K mg base CX0 3 f fd ps_is_serving (sp_is_serving K) := by
  obtain ⟨f_places_above, fd_places_above, F_places_above, m_places_above, b_places_above⟩ := T.d_places_above
  have G_places_above : FnOk P w K mg base CX0 2 f_places_above fd_places_above ps_places_above (sp_places_above K) := ok_places_above F_places_above T
  refine F.ok (k := 2) sc_is_serving (fun vs H Q E h => len_is_serving h) (fun cdv A outer s H vs Q E hr h => ?_)
  refine ⟨_, (pss_one (ps_ret (pe_cmpR op_eq (pe_callB call_len_seq (by rfl) T.n_len (by decide +kernel) (pa_cons (pe_call G_places_above (hr.mono (by decide)) (by rfl) m_places_above F_places_above.kp b_places_above .nil pass0 (pa_cons (pv 0) (pa_cons (pv 1) pa_nil))) pa_nil)) pe_int (nomark _)))), ?_⟩
  obtain ⟨a, ns, p, rfl, ha, hn, p0, p5, k⟩ := h
  simp only [tSeq, tAsg, tDrop, tRet, tRetN, tIfS, tNext, tTest, tB, tNot, tAnd, tOr, tChain, tIf, tAndV, tOrV, tNotV, tOp, tUn, tCB, tCons, tNil, tVar, tC, tCall, tCallS, gName, rI, rI0, rU, rEq, rNe, tTup, tLst, gSub, rSetL, rIxL, rIxT, L2.start, List.map_cons, List.map_nil, List.length_cons, List.length_nil, Nat.reduceAdd, Nat.reduceSub, List.replicate_succ, List.replicate_zero, List.getElem?_cons_zero, List.getElem?_cons_succ, List.set_cons_zero, List.set_cons_succ, Option.some.injEq, exists_eq_left', exists_eq_left, exists_and_left, V.int.injEq, V.bl.injEq, V.ref.injEq, V.str.injEq, List.cons.injEq, and_true, true_and, List.nil_append, List.cons_append, List.append_nil, reduceCtorEq, false_and, exists_false, or_false, false_or, and_false, Int.reduceNeg, decide_eq_true_eq, Bool.not_eq_true', decide_eq_false_iff_not, and_assoc, tYes, ↓reduceIte, wipe, Bool.false_eq_true, Bool.true_eq_false, cxOf, false_implies, true_implies, implies_true, forall_const, sp_places_above]
  refine ⟨ns, ha, hn, p0, p5, fun H1 b s eb => ⟨_, .inl (SqL.of eb), rfl, ?_⟩⟩
  have e : decide ((((ab p ns ns.length).map V.int).length : Int) = 0) = decide (ab p ns ns.length = []) := by
    rw [List.length_map]
    cases ab p ns ns.length with
    | nil => rfl
    | cons x l => rw [decide_eq_false (by rw [List.length_cons]; omega), decide_eq_false (fun z => by cases z)]
  rw [e]
  exact k H1 s
def PoolOk (H : Hp) (x : V) (a : Addr) (ns : List Int) : Prop := x = .ref a ∧ Row H a (ns.map V.int) ∧ ns.length ≤ 12 ∧ ∀ n, n ∈ ns → 1 ≤ n ∧ n ≤ 1000000000
/-- the errors of a pool that is none -/
def PoolBad (cB : Addr) (x : V) (H : Hp) (E : XK) : Prop :=
  (¬ FewRow H x → ∀ H' d, Same H H' → H' d = none → E (.ref cB) (some d) (upd H' d (bad2 0 "many"))) ∧
  (∀ a xs (i : Nat) y, x = .ref a → Row H a xs → xs.length ≤ 12 → (∀ j z, j < i → xs[j]? = some z → whole z 1 1000000000 = true) → xs[i]? = some y → whole y 1 1000000000 = false → ∀ H' d, Same H H' → H' d = none → E (.ref cB) (some d) (upd H' d (bad2 i "coin")))
def sp_room_row (_ : PySem.W.Frag) (cB cP : Addr) : Sp := fun vs H Q E => ∃ x y : V, vs = [x, y] ∧ Arg H x ∧ Plain H y ∧ PoolBad cB x H E ∧
  (∀ a ns, PoolOk H x a ns → whole y 2 5 = false → ∀ H', Same H H' → E (.ref cP) none H') ∧
  ∀ a ns p, PoolOk H x a ns → y = .int p → 2 ≤ p → p ≤ 5 → ∀ (H' : Hp) (b : Addr) (ms : List Int), Same H H' → H' b = some (.tup ((sumsI ms ms.length).map fun s => V.int (room p s))) → ms.Perm ns → ms.Pairwise (· ≤ ·) → Q (.ref b) H'
theorem len_room_row {vs H Q E} (h : sp_room_row K cBadPool cBadPeople vs H Q E) : vs.length = 2 := by
  obtain ⟨_, _, rfl, _⟩ := h; rfl
theorem ok_room_row {f : Addr} {fd : FuncData} (F : Fun K "room_row" "room_row" s_room_row f fd) (T : Txt K mg cBadPool cBadPeople cBadCoin) : FnOk P w K mg base (L2.CX P w) 4 f fd ps_room_row (sp_room_row K cBadPool cBadPeople) := by
  obtain ⟨f_check_pool, fd_check_pool, F_check_pool, m_check_pool, b_check_pool⟩ := T.d_check_pool
  have G_check_pool : FnOk P w K mg base (L2.CX P w) 3 f_check_pool fd_check_pool ps_check_pool (sp_check_pool K cBadPool) := ok_check_pool F_check_pool T
  obtain ⟨f_check_people, fd_check_people, F_check_people, m_check_people, b_check_people⟩ := T.d_check_people
  have G_check_people : FnOk P w K mg base (L2.CX P w) 3 f_check_people fd_check_people ps_check_people (sp_check_people K cBadPeople) := ok_check_people F_check_people T
  obtain ⟨f_room_at, fd_room_at, F_room_at, m_room_at, b_room_at⟩ := T.d_room_at
  have G_room_at : FnOk P w K mg base CX0 1 f_room_at fd_room_at ps_room_at (sp_room_at K) := ok_room_at F_room_at T
  obtain ⟨f_sums_ahead, fd_sums_ahead, F_sums_ahead, m_sums_ahead, b_sums_ahead⟩ := T.d_sums_ahead
  have G_sums_ahead : FnOk P w K mg base CX0 1 f_sums_ahead fd_sums_ahead ps_sums_ahead (sp_sums_ahead K) := ok_sums_ahead F_sums_ahead T
  obtain ⟨u_LEAST_PEOPLE, c_LEAST_PEOPLE, r_LEAST_PEOPLE⟩ := T.c_LEAST_PEOPLE
  refine F.okX (k := 3) sc_room_row (fun vs H Q E h => len_room_row h) (fun cdv A outer s H vs Q E hr h => ?_)
  refine ⟨_, (pss_cons (ps_set (i := 2) sc_room_row.nd rfl (Or.inl rfl) (pe_call G_check_pool (hr.mono (by decide)) (by rfl) m_check_pool F_check_pool.kp b_check_pool .nil (passes_call (takes_of rfl rfl rfl rfl) fun _ _ _ _ z => z) (pa_cons (pv 0) pa_nil)))
      (pss_cons (ps_expr (pe_call G_check_people (hr.mono (by decide)) (by rfl) m_check_people F_check_people.kp b_check_people .nil (passes_call (takes_of rfl rfl rfl rfl) fun _ _ _ _ z => z) (pa_cons (pv 1) (pa_cons (pe_glob rfl c_LEAST_PEOPLE r_LEAST_PEOPLE) pa_nil))))
      (pss_one (ps_ret (pe_callTy call_tuple_of (by rfl) T.n_tuple (by decide +kernel) (pa_cons (pe_lc (own := [("ahead", 3)]) (g := gName 3) (tt := tYes) rfl sc_room_row.nd (pi_list (pe_call G_sums_ahead (hr.mono (by decide)) (by rfl) m_sums_ahead F_sums_ahead.kp b_sums_ahead .nil pass0 (pa_cons (pv 2) pa_nil))) (blkOk_by (N := nm_room_row) (sc := defScope s_room_row) (by decide +kernel)) (fun _ _ _ _ _ => (pg_name (i := 3) sc_room_row.nd rfl (Or.inl rfl))) (fun _ _ _ _ _ => pts_nil) (fun _ _ _ _ _ => (pe_call G_room_at (hr.mono (by decide)) (by rfl) m_room_at F_room_at.kp b_room_at .nil pass0 (pa_cons (pv 3) (pa_cons (pv 1) pa_nil))))) pa_nil)))))), ?_⟩
  obtain ⟨x, y, rfl, hx, hy, ⟨q1, q2⟩, q3, q4⟩ := h
  simp only [tSeq, tAsg, tDrop, tRet, tRetN, tIfS, tNext, tTest, tB, tNot, tAnd, tOr, tChain, tIf, tAndV, tOrV, tNotV, tOp, tUn, tCB, tCons, tNil, tVar, tC, tCall, tCallS, gName, rI, rI0, rU, rEq, rNe, tTup, tLst, gSub, rSetL, rIxL, rIxT, L2.start, List.map_cons, List.map_nil, List.length_cons, List.length_nil, Nat.reduceAdd, Nat.reduceSub, List.replicate_succ, List.replicate_zero, List.getElem?_cons_zero, List.getElem?_cons_succ, List.set_cons_zero, List.set_cons_succ, Option.some.injEq, exists_eq_left', exists_eq_left, exists_and_left, V.int.injEq, V.bl.injEq, V.ref.injEq, V.str.injEq, List.cons.injEq, and_true, true_and, List.nil_append, List.cons_append, List.append_nil, reduceCtorEq, false_and, exists_false, or_false, false_or, and_false, Int.reduceNeg, decide_eq_true_eq, Bool.not_eq_true', decide_eq_false_iff_not, and_assoc, tYes, ↓reduceIte, wipe, Bool.false_eq_true, Bool.true_eq_false, cxOf, false_implies, true_implies, implies_true, forall_const, sp_check_pool, sp_check_people, sp_sums_ahead, sp_room_at]
  refine ⟨hx, q1, q2, fun a ns e hr hl nb H1 b ms s hb p1 p2 => ⟨hy.same s, fun w1 => ?_, fun w0 => q3 a ns ⟨e, hr, hl, nb⟩ w0 H1 s⟩⟩
  obtain ⟨p, rfl, p0, p5⟩ := whole_of w1
  have ml : ms.length ≤ 12 := by rw [p1.length_eq]; exact hl
  refine ⟨_, rfl, b, ms, rfl, hb, by omega, fun H2 c s2 ec => ⟨c, rfl, ⟨_, SqL.of ec⟩, fun D hD => lc_list (K := K) (a := c) (xs := (sumsI ms ms.length).map V.int) (fun i h' => Same H2 h' ∧ h' D = some (.lst (((sumsI ms ms.length).take i).map fun s => V.int (room p s)))) ⟨Same.new hD, upd_same⟩ (fun i h' _ ⟨s, _⟩ => SqL.of (s _ _ ec)) ?_ ?_⟩⟩
  · rintro i z h' hi ⟨s3, eD⟩
    obtain ⟨g, hg, rfl⟩ := nat_map hi
    have il := (List.getElem?_eq_some_iff.mp hg).1
    rw [sumsI_len] at il
    simp only [tSeq, tAsg, tDrop, tRet, tRetN, tIfS, tNext, tTest, tB, tNot, tAnd, tOr, tChain, tIf, tAndV, tOrV, tNotV, tOp, tUn, tCB, tCons, tNil, tVar, tC, tCall, tCallS, gName, rI, rI0, rU, rEq, rNe, tTup, tLst, gSub, rSetL, rIxL, rIxT, L2.start, List.map_cons, List.map_nil, List.length_cons, List.length_nil, Nat.reduceAdd, Nat.reduceSub, List.replicate_succ, List.replicate_zero, List.getElem?_cons_zero, List.getElem?_cons_succ, List.set_cons_zero, List.set_cons_succ, Option.some.injEq, exists_eq_left', exists_eq_left, exists_and_left, V.int.injEq, V.bl.injEq, V.ref.injEq, V.str.injEq, List.cons.injEq, and_true, true_and, List.nil_append, List.cons_append, List.append_nil, reduceCtorEq, false_and, exists_false, or_false, false_or, and_false, Int.reduceNeg, decide_eq_true_eq, Bool.not_eq_true', decide_eq_false_iff_not, and_assoc, tYes, ↓reduceIte, wipe, Bool.false_eq_true, Bool.true_eq_false, cxOf, false_implies, true_implies, implies_true, forall_const, sp_room_at]
    refine ⟨p0, p5, _, eD, by rw [List.length_map, List.length_take]; exact small1000 (by omega), fun b o e => ?_, ?_⟩
    · rw [upd_ne (ne_of_none e hD)]
      exact s3 b o e
    · rw [upd_same, List.take_add_one, hg, List.map_append]
      rfl
  · rintro h' ⟨s3, eD⟩
    rw [List.length_map, List.take_length] at eD
    exact ⟨D, rfl, _, .inl ⟨SqL.of eD, fun l hl2 => q4 a ns p ⟨e, hr, hl, nb⟩ rfl p0 p5 _ l ms (s.trans (s2.trans (s3.trans (Same.new hl2)))) upd_same p1 p2⟩⟩
theorem ab_mem {p : Int} {ns : List Int} : ∀ {i : Nat} {x : Int}, x ∈ ab p ns i → ∃ j : Nat, x = j ∧ j < i ∧ room p (ns.take j).sum < ns.getD j 0
  | 0, _, h => absurd h List.not_mem_nil
  | i + 1, x, h => by
    unfold ab at h
    rcases List.mem_append.mp h with h | h
    · obtain ⟨j, e, l, g⟩ := ab_mem h
      exact ⟨j, e, by omega, g⟩
    · split at h
      · rename_i g
        exact ⟨i, List.mem_singleton.mp h, by omega, g⟩
      · exact absurd h List.not_mem_nil
theorem slice_to {H : Hp} {a : Addr} {ns : List Int} {j : Nat} {Q : VK} (ha : H a = some (.tup (ns.map V.int))) (hj : j < ns.length) (k : ∀ q, H q = none → Q (.ref q) (upd H q (.tup ((ns.take j).map V.int)))) : rSlA K (.ref a) none (some (j : Int)) H Q := by
  have nw : ¬ (HT.sIx (ns.map V.int).length 0 none = 0 ∧ HT.sIx (ns.map V.int).length (ns.map V.int).length (some (j : Int)) = (ns.map V.int).length) := fun z => by
    have y := z.2
    rw [HT.sIx_nat, List.length_map] at y
    omega
  refine ⟨a, _, rfl, SqT.of ha, fun z => absurd z nw, fun _ q hq => ?_⟩
  have e : cutV (ns.map V.int) none (some (j : Int)) = (ns.take j).map V.int := by
    unfold cutV
    rw [HT.sIx_none, HT.sIx_nat, List.length_map, List.drop_zero, Nat.sub_zero, ← List.map_take, Nat.min_eq_left (Nat.le_of_lt hj)]
  rw [e]
  exact k q hq
/-- what is told of the coins that come -/
def Fits (p : Int) (ms : List Int) (r : Option (Int × Int)) : Prop :=
  (ab p ms ms.length = [] → r = some (1, room p ms.sum)) ∧
  ∀ j l, ab p ms ms.length = j :: l → ∃ low : Int, (∃ i, i ∈ ab p ms ms.length ∧ low = (p - 1) * (ms.getD i.toNat 0 - 1) - (ms.take i.toNat).sum) ∧ (∀ i, i ∈ ab p ms ms.length → (p - 1) * (ms.getD i.toNat 0 - 1) - (ms.take i.toNat).sum ≤ low) ∧
    r = if low ≤ room p (ms.take j.toNat).sum then some (low, room p (ms.take j.toNat).sum) else none
def FitV (H : Hp) (v : V) : Option (Int × Int) → Prop
  | none => v = .non
  | some (l, u) => ∃ b, v = .ref b ∧ H b = some (.tup [.int l, .int u])
def sp_fitting_coins (_ : PySem.W.Frag) (cB cP : Addr) : Sp := fun vs H Q E => ∃ x y : V, vs = [x, y] ∧ Arg H x ∧ Plain H y ∧ PoolBad cB x H E ∧
  (∀ a ns, PoolOk H x a ns → whole y 2 5 = false → ∀ H', Same H H' → E (.ref cP) none H') ∧
  ∀ a ns p, PoolOk H x a ns → y = .int p → 2 ≤ p → p ≤ 5 → ∀ (H' : Hp) (v : V) (ms : List Int) (r : Option (Int × Int)), Same H H' → FitV H' v r → Fits p ms r → ms.Perm ns → ms.Pairwise (· ≤ ·) → Q v H'
theorem len_fitting_coins {vs H Q E} (h : sp_fitting_coins K cBadPool cBadPeople vs H Q E) : vs.length = 2 := by
  obtain ⟨_, _, rfl, _⟩ := h; rfl
theorem ok_fitting_coins {f : Addr} {fd : FuncData} (F : Fun K "fitting_coins" "fitting_coins" s_fitting_coins f fd) (T : Txt K mg cBadPool cBadPeople cBadCoin) : FnOk P w K mg base (L2.CX P w) 4 f fd ps_fitting_coins (sp_fitting_coins K cBadPool cBadPeople) := by
  obtain ⟨f_check_pool, fd_check_pool, F_check_pool, m_check_pool, b_check_pool⟩ := T.d_check_pool
  have G_check_pool : FnOk P w K mg base (L2.CX P w) 3 f_check_pool fd_check_pool ps_check_pool (sp_check_pool K cBadPool) := ok_check_pool F_check_pool T
  obtain ⟨f_check_people, fd_check_people, F_check_people, m_check_people, b_check_people⟩ := T.d_check_people
  have G_check_people : FnOk P w K mg base (L2.CX P w) 3 f_check_people fd_check_people ps_check_people (sp_check_people K cBadPeople) := ok_check_people F_check_people T
  obtain ⟨f_places_above, fd_places_above, F_places_above, m_places_above, b_places_above⟩ := T.d_places_above
  have G_places_above : FnOk P w K mg base CX0 2 f_places_above fd_places_above ps_places_above (sp_places_above K) := ok_places_above F_places_above T
  obtain ⟨f_room_at, fd_room_at, F_room_at, m_room_at, b_room_at⟩ := T.d_room_at
  have G_room_at : FnOk P w K mg base CX0 1 f_room_at fd_room_at ps_room_at (sp_room_at K) := ok_room_at F_room_at T
  obtain ⟨u_LEAST_PEOPLE, c_LEAST_PEOPLE, r_LEAST_PEOPLE⟩ := T.c_LEAST_PEOPLE
  refine F.okX (k := 3) sc_fitting_coins (fun vs H Q E h => len_fitting_coins h) (fun cdv A outer s H vs Q E hr h => ?_)
  refine ⟨_, (pss_cons (ps_set (i := 2) sc_fitting_coins.nd rfl (Or.inr rfl) (pe_call G_check_pool (hr.mono (by decide)) (by rfl) m_check_pool F_check_pool.kp b_check_pool .nil (passes_call (takes_of rfl rfl rfl rfl) fun _ _ _ _ z => z) (pa_cons (pv 0) pa_nil)))
      (pss_cons (ps_expr (pe_call G_check_people (hr.mono (by decide)) (by rfl) m_check_people F_check_people.kp b_check_people .nil (passes_call (takes_of rfl rfl rfl rfl) fun _ _ _ _ z => z) (pa_cons (pv 1) (pa_cons (pe_glob rfl c_LEAST_PEOPLE r_LEAST_PEOPLE) pa_nil))))
      (pss_cons (ps_set (i := 3) sc_fitting_coins.nd rfl (Or.inl rfl) (pe_call G_places_above (hr.mono (by decide)) (by rfl) m_places_above F_places_above.kp b_places_above .nil pass0 (pa_cons (pv 2) (pa_cons (pv 1) pa_nil))))
      (pss_cons (ps_if (pt_cmpR op_eq (pe_callB call_len_seq (by rfl) T.n_len (by decide +kernel) (pa_cons (pv 3) pa_nil)) pe_int (nomark _)) (pss_one (ps_ret (pe_tup (pa_cons pe_int (pa_cons (pe_call G_room_at (hr.mono (by decide)) (by rfl) m_room_at F_room_at.kp b_room_at .nil pass0 (pa_cons (pe_callB (cr_sumE rfl) (by rfl) T.n_sum (by decide +kernel) (pa_cons (pv 2) pa_nil)) (pa_cons (pv 1) pa_nil))) pa_nil))))) pss_nil)
      (pss_cons (ps_set (i := 4) sc_fitting_coins.nd rfl (Or.inl rfl) (pe_call G_room_at (hr.mono (by decide)) (by rfl) m_room_at F_room_at.kp b_room_at .nil pass0 (pa_cons (pe_callB (cr_sumE rfl) (by rfl) T.n_sum (by decide +kernel) (pa_cons (pe_slice sl_tupA (pv 2) po_none (po_some (pe_ix ix_list (pv 3) pe_int (fun _ _ => rfl)))) pa_nil)) (pa_cons (pv 1) pa_nil))))
      (pss_cons (ps_set (i := 5) sc_fitting_coins.nd rfl (Or.inl rfl) (pe_callB (cr_max rfl) (by rfl) T.n_max (by decide +kernel) (pa_cons (pe_lc (own := [("place", 6)]) (g := gName 6) (tt := tYes) rfl sc_fitting_coins.nd (pi_list (pv 3)) (blkOk_by (N := nm_fitting_coins) (sc := defScope s_fitting_coins) (by decide +kernel)) (fun _ _ _ _ _ => (pg_name (i := 6) sc_fitting_coins.nd rfl (Or.inl rfl))) (fun _ _ _ _ _ => pts_nil) (fun _ _ _ _ _ => (pe_op op_sub (pe_op op_mul (pe_op op_sub (pv 1) pe_int) (pe_op op_sub (pe_ix (ix_tupK (K := K) rfl) (pv 2) (pv 6) (fun _ _ => rfl)) pe_int)) (pe_callB (cr_sumEK (K := K) rfl rfl) (by rfl) T.n_sum (by decide +kernel) (pa_cons (pe_slice (sl_tupAK (K := K) rfl) (pv 2) po_none (po_some (pv 6))) pa_nil))))) pa_nil)))
      (pss_one (ps_ret (pe_ifExp (pt_cmpR op_le (pv 5) (pv 4) (nomark _)) (pe_tup (pa_cons (pv 5) (pa_cons (pv 4) pa_nil))) pe_non))))))))), ?_⟩
  obtain ⟨x, y, rfl, hx, hy, ⟨q1, q2⟩, q3, q4⟩ := h
  simp only [tSeq, tAsg, tDrop, tRet, tRetN, tIfS, tNext, tTest, tB, tNot, tAnd, tOr, tChain, tIf, tAndV, tOrV, tNotV, tOp, tUn, tCB, tCons, tNil, tVar, tC, tCall, tCallS, gName, rI, rI0, rU, rEq, rNe, tTup, tLst, gSub, rSetL, rIxL, rIxT, L2.start, List.map_cons, List.map_nil, List.length_cons, List.length_nil, Nat.reduceAdd, Nat.reduceSub, List.replicate_succ, List.replicate_zero, List.getElem?_cons_zero, List.getElem?_cons_succ, List.set_cons_zero, List.set_cons_succ, Option.some.injEq, exists_eq_left', exists_eq_left, exists_and_left, V.int.injEq, V.bl.injEq, V.ref.injEq, V.str.injEq, List.cons.injEq, and_true, true_and, List.nil_append, List.cons_append, List.append_nil, reduceCtorEq, false_and, exists_false, or_false, false_or, and_false, Int.reduceNeg, decide_eq_true_eq, Bool.not_eq_true', decide_eq_false_iff_not, and_assoc, tYes, ↓reduceIte, wipe, Bool.false_eq_true, Bool.true_eq_false, cxOf, false_implies, true_implies, implies_true, forall_const, sp_check_pool, sp_check_people, sp_places_above, sp_room_at]
  refine ⟨hx, q1, q2, fun a ns e hr hl nb H1 b ms s hb p1 p2 => ⟨hy.same s, fun w1 => ?_, fun w0 => q3 a ns ⟨e, hr, hl, nb⟩ w0 H1 s⟩⟩
  obtain ⟨p, rfl, p0, p5⟩ := whole_of w1
  have ml : ms.length ≤ 12 := by rw [p1.length_eq]; exact hl
  simp only [tSeq, tAsg, tDrop, tRet, tRetN, tIfS, tNext, tTest, tB, tNot, tAnd, tOr, tChain, tIf, tAndV, tOrV, tNotV, tOp, tUn, tCB, tCons, tNil, tVar, tC, tCall, tCallS, gName, rI, rI0, rU, rEq, rNe, tTup, tLst, gSub, rSetL, rIxL, rIxT, L2.start, List.map_cons, List.map_nil, List.length_cons, List.length_nil, Nat.reduceAdd, Nat.reduceSub, List.replicate_succ, List.replicate_zero, List.getElem?_cons_zero, List.getElem?_cons_succ, List.set_cons_zero, List.set_cons_succ, Option.some.injEq, exists_eq_left', exists_eq_left, exists_and_left, V.int.injEq, V.bl.injEq, V.ref.injEq, V.str.injEq, List.cons.injEq, and_true, true_and, List.nil_append, List.cons_append, List.append_nil, reduceCtorEq, false_and, exists_false, or_false, false_or, and_false, Int.reduceNeg, decide_eq_true_eq, Bool.not_eq_true', decide_eq_false_iff_not, and_assoc, tYes, ↓reduceIte, wipe, Bool.false_eq_true, Bool.true_eq_false, cxOf, false_implies, true_implies, implies_true, forall_const]
  refine ⟨ms, .inl hb, by omega, p0, p5, fun H2 c s2 ec => ⟨_, .inl (SqL.of ec), rfl, ?_⟩⟩
  have hb2 := s2 _ _ hb
  cases e0 : ab p ms ms.length with
  | nil =>
    rw [e0] at ec
    rw [if_pos (show ((List.map V.int ([] : List Int)).length : Int) = 0 from rfl)]
    refine ⟨b, ms, rfl, .inr (SqT.of hb2), _, rfl, p0, p5, by decide, fun t ht => ?_⟩
    exact q4 a ns p ⟨e, hr, hl, nb⟩ rfl p0 p5 _ _ ms (some (1, room p ms.sum)) (s.trans (s2.trans (Same.new ht))) ⟨t, rfl, upd_same⟩ ⟨fun _ => rfl, fun j l z => by rw [e0] at z; cases z⟩ p1 p2
  | cons j0 l =>
    rw [e0] at ec
    rw [if_neg (by rw [List.length_map, List.length_cons]; omega)]
    have am := fun x (hx : x ∈ j0 :: l) => ab_mem (p := p) (ns := ms) (i := ms.length) (x := x) (by rw [e0]; exact hx)
    obtain ⟨j, rfl, jl, _⟩ := am j0 List.mem_cons_self
    refine ⟨_, rfl, _, rfl, c, _, 0, V.int j, rfl, rfl, SqL.of ec, atI_nat (j := 0) rfl, _, rfl, slice_to hb2 jl fun q hq => ⟨q, ms.take j, rfl, .inr (SqT.of upd_same), _, rfl, p0, p5, ?_⟩⟩
    have s3 := Same.new (o := HO.tup ((ms.take j).map V.int)) hq
    have hb3 := s3 _ _ hb2
    have ec3 := s3 _ _ ec
    generalize upd H2 q (HO.tup ((ms.take j).map V.int)) = H3 at s3 hb3 ec3 ⊢
    refine ⟨_, rfl, c, rfl, ⟨_, SqL.of ec3⟩, fun D hD => lc_list (K := K) (a := c) (xs := ((j : Int) :: l).map V.int) (fun i h' => Same H3 h' ∧ h' D = some (.lst ((((j : Int) :: l).take i).map fun x => V.int ((p - 1) * (ms.getD x.toNat 0 - 1) - (ms.take x.toNat).sum)))) ⟨Same.new hD, upd_same⟩ (fun i h' _ ⟨s, _⟩ => SqL.of (s _ _ ec3)) ?_ ?_⟩
    · rintro i z h' hi ⟨s4, eD⟩
      obtain ⟨g, hg, rfl⟩ := nat_map hi
      obtain ⟨m, rfl, ml2, _⟩ := am g (List.mem_of_getElem? hg)
      have hb4 := s4 _ _ hb3
      obtain ⟨cm, hcm⟩ : ∃ c, ms[m]? = some c := ⟨ms[m], List.getElem?_eq_getElem ml2⟩
      have gm : ms.getD m 0 = cm := by rw [List.getD_eq_getElem?_getD, hcm]; rfl
      have il := (List.getElem?_eq_some_iff.mp hg).1
      have ll : ((j : Int) :: l).length ≤ 12 := by
        have z := ab_len p ms ms.length
        rw [e0] at z
        omega
      simp only [tSeq, tAsg, tDrop, tRet, tRetN, tIfS, tNext, tTest, tB, tNot, tAnd, tOr, tChain, tIf, tAndV, tOrV, tNotV, tOp, tUn, tCB, tCons, tNil, tVar, tC, tCall, tCallS, gName, rI, rI0, rU, rEq, rNe, tTup, tLst, gSub, rSetL, rIxL, rIxT, L2.start, List.map_cons, List.map_nil, List.length_cons, List.length_nil, Nat.reduceAdd, Nat.reduceSub, List.replicate_succ, List.replicate_zero, List.getElem?_cons_zero, List.getElem?_cons_succ, List.set_cons_zero, List.set_cons_succ, Option.some.injEq, exists_eq_left', exists_eq_left, exists_and_left, V.int.injEq, V.bl.injEq, V.ref.injEq, V.str.injEq, List.cons.injEq, and_true, true_and, List.nil_append, List.cons_append, List.append_nil, reduceCtorEq, false_and, exists_false, or_false, false_or, and_false, Int.reduceNeg, decide_eq_true_eq, Bool.not_eq_true', decide_eq_false_iff_not, and_assoc, tYes, ↓reduceIte, wipe, Bool.false_eq_true, Bool.true_eq_false, cxOf, false_implies, true_implies, implies_true, forall_const]
      refine ⟨_, SqT.of hb4, _, atI_nat (by rw [List.getElem?_map, hcm]; rfl), _, rfl, cml (by omega) (by omega), _, rfl, _, rfl, _, rfl, slice_to hb4 ml2 fun q2 hq2 => ⟨q2, ms.take m, rfl, .inr (SqT.of upd_same), _, rfl, _, (Same.new hq2) _ _ eD, by rw [List.length_map, List.length_take]; exact small1000 (by omega), fun b o z => ?_, ?_⟩⟩
      · rw [upd_ne (ne_of_none z hD)]
        exact (Same.new hq2) _ _ (s4 b o z)
      · rw [upd_same, List.take_add_one, hg, List.map_append]
        show _ = some (HO.lst (_ ++ [V.int ((p - 1) * (ms.getD ((m : Int).toNat) 0 - 1) - (ms.take ((m : Int).toNat)).sum)]))
        rw [Int.toNat_natCast, gm]
    · rintro h' ⟨s4, eD⟩
      rw [List.length_map, List.take_length] at eD
      simp only [tSeq, tAsg, tDrop, tRet, tRetN, tIfS, tNext, tTest, tB, tNot, tAnd, tOr, tChain, tIf, tAndV, tOrV, tNotV, tOp, tUn, tCB, tCons, tNil, tVar, tC, tCall, tCallS, gName, rI, rI0, rU, rEq, rNe, tTup, tLst, gSub, rSetL, rIxL, rIxT, L2.start, List.map_cons, List.map_nil, List.length_cons, List.length_nil, Nat.reduceAdd, Nat.reduceSub, List.replicate_succ, List.replicate_zero, List.getElem?_cons_zero, List.getElem?_cons_succ, List.set_cons_zero, List.set_cons_succ, Option.some.injEq, exists_eq_left', exists_eq_left, exists_and_left, V.int.injEq, V.bl.injEq, V.ref.injEq, V.str.injEq, List.cons.injEq, and_true, true_and, List.nil_append, List.cons_append, List.append_nil, reduceCtorEq, false_and, exists_false, or_false, false_or, and_false, Int.reduceNeg, decide_eq_true_eq, Bool.not_eq_true', decide_eq_false_iff_not, and_assoc, tYes, ↓reduceIte, wipe, Bool.false_eq_true, Bool.true_eq_false, cxOf, false_implies, true_implies, implies_true, forall_const, rMax]
      refine ⟨((j : Int) :: l).map fun x => (p - 1) * (ms.getD x.toNat 0 - 1) - (ms.take x.toNat).sum, SqL.of (by rw [List.map_map]; exact eD), by rw [List.length_map, List.length_cons]; omega, fun m hm mx => ?_⟩
      obtain ⟨i, hi, em⟩ := List.mem_map.mp hm
      have fit : ∀ r, r = (if m ≤ room p (ms.take j).sum then some (m, room p (ms.take j).sum) else none) → Fits p ms r := fun r hr' => ⟨fun z => (by rw [e0] at z; cases z), fun j' l' z => by
        rw [e0] at z ⊢
        injection z with z1 z2
        subst z1
        exact ⟨m, ⟨i, hi, em.symm⟩, fun y hy => mx _ (List.mem_map.mpr ⟨y, hy, rfl⟩), by rw [Int.toNat_natCast]; exact hr'⟩⟩
      have sf := s.trans (s2.trans (s3.trans s4))
      split
      · rename_i g
        exact ⟨by decide, fun t ht => q4 a ns p ⟨e, hr, hl, nb⟩ rfl p0 p5 _ _ ms (some (m, room p (ms.take j).sum)) (sf.trans (Same.new ht)) ⟨t, rfl, upd_same⟩ (fit _ (by rw [if_pos g])) p1 p2⟩
      · rename_i g
        exact q4 a ns p ⟨e, hr, hl, nb⟩ rfl p0 p5 _ _ ms none sf rfl (fit _ (by rw [if_neg g])) p1 p2
end
end My
set_option Elab.async false
set_option linter.all false
set_option maxRecDepth 100000
set_option maxHeartbeats 4000000
namespace My
open PySem PySem.Spec PyProof.Rows L2 Gen
section
variable {P : Program} {w : World} {K : PySem.W.Frag} {mg : Str → Option Value} {base : Heap} { cBadPool cBadPeople cBadCoin : Addr}
def NextV : Option (Int × Int) → V
  | none => .non
  | some (_, u) => .int u
def sp_next_coin (_ : PySem.W.Frag) (cB cP : Addr) : Sp := fun vs H Q E => ∃ x y : V, vs = [x, y] ∧ Arg H x ∧ Plain H y ∧ PoolBad cB x H E ∧
  (∀ a ns, PoolOk H x a ns → whole y 2 5 = false → ∀ H', Same H H' → E (.ref cP) none H') ∧
  ∀ a ns p, PoolOk H x a ns → y = .int p → 2 ≤ p → p ≤ 5 → ∀ (H' : Hp) (ms : List Int) (r : Option (Int × Int)), Same H H' → Fits p ms r → ms.Perm ns → ms.Pairwise (· ≤ ·) → Q (NextV r) H'
theorem len_next_coin {vs H Q E} (h : sp_next_coin K cBadPool cBadPeople vs H Q E) : vs.length = 2 := by
  obtain ⟨_, _, rfl, _⟩ := h; rfl
theorem ok_next_coin {f : Addr} {fd : FuncData} (F : Fun K "next_coin" "next_coin" s_next_coin f fd) (T : Txt K mg cBadPool cBadPeople cBadCoin) : FnOk P w K mg base (L2.CX P w) 5 f fd ps_next_coin (sp_next_coin K cBadPool cBadPeople) := by
  obtain ⟨f_fitting_coins, fd_fitting_coins, F_fitting_coins, m_fitting_coins, b_fitting_coins⟩ := T.d_fitting_coins
  have G_fitting_coins : FnOk P w K mg base (L2.CX P w) 4 f_fitting_coins fd_fitting_coins ps_fitting_coins (sp_fitting_coins K cBadPool cBadPeople) := ok_fitting_coins F_fitting_coins T
  refine F.okX (k := 4) sc_next_coin (fun vs H Q E h => len_next_coin h) (fun cdv A outer s H vs Q E hr h => ?_)
  refine ⟨_, (pss_cons (ps_set (i := 2) sc_next_coin.nd rfl (Or.inl rfl) (pe_call G_fitting_coins (hr.mono (by decide)) (by rfl) m_fitting_coins F_fitting_coins.kp b_fitting_coins .nil (passes_call (takes_of rfl rfl rfl rfl) fun _ _ _ _ z => z) (pa_cons (pv 0) (pa_cons (pv 1) pa_nil))))
      (pss_one (ps_ret (pe_ifExp (pt_cmpR op_isN (pv 2) pe_non (nomark _)) pe_non (pe_ix ix_tup (pv 2) pe_int (fun _ _ => rfl)))))), ?_⟩
  obtain ⟨x, y, rfl, hx, hy, q12, q3, q4⟩ := h
  simp only [tSeq, tAsg, tDrop, tRet, tRetN, tIfS, tNext, tTest, tB, tNot, tAnd, tOr, tChain, tIf, tAndV, tOrV, tNotV, tOp, tUn, tCB, tCons, tNil, tVar, tC, tCall, tCallS, gName, rI, rI0, rU, rEq, rNe, tTup, tLst, gSub, rSetL, rIxL, rIxT, L2.start, List.map_cons, List.map_nil, List.length_cons, List.length_nil, Nat.reduceAdd, Nat.reduceSub, List.replicate_succ, List.replicate_zero, List.getElem?_cons_zero, List.getElem?_cons_succ, List.set_cons_zero, List.set_cons_succ, Option.some.injEq, exists_eq_left', exists_eq_left, exists_and_left, V.int.injEq, V.bl.injEq, V.ref.injEq, V.str.injEq, List.cons.injEq, and_true, true_and, List.nil_append, List.cons_append, List.append_nil, reduceCtorEq, false_and, exists_false, or_false, false_or, and_false, Int.reduceNeg, decide_eq_true_eq, Bool.not_eq_true', decide_eq_false_iff_not, and_assoc, tYes, ↓reduceIte, wipe, Bool.false_eq_true, Bool.true_eq_false, cxOf, false_implies, true_implies, implies_true, forall_const, sp_fitting_coins]
  refine ⟨hx, hy, q12, q3, fun a ns p o e p0 p5 H' v ms r s fv ft p1 p2 => ?_⟩
  have z := q4 a ns p o e p0 p5 H' ms r s ft p1 p2
  cases r with
  | none =>
    rw [if_pos (show v = V.non from fv)]
    exact z
  | some lu =>
    obtain ⟨l, u⟩ := lu
    obtain ⟨b, rfl, eb⟩ := fv
    rw [if_neg (fun z => by cases z)]
    exact ⟨b, rfl, _, SqT.of eb, _, atI_nat (j := 1) rfl, z⟩
def sp_may_put (_ : PySem.W.Frag) (cB cC cP : Addr) : Sp := fun vs H Q E => ∃ x u y : V, vs = [x, u, y] ∧ Arg H x ∧ Plain H u ∧ Plain H y ∧ PoolBad cB x H E ∧
  (∀ a ns, PoolOk H x a ns → whole u 1 1000000000 = false → ∀ H', Same H H' → E (.ref cC) none H') ∧
  (∀ a ns, PoolOk H x a ns → whole u 1 1000000000 = true → whole y 2 5 = false → ∀ H', Same H H' → E (.ref cP) none H') ∧
  ∀ a ns c p, PoolOk H x a ns → u = .int c → 1 ≤ c → c ≤ 1000000000 → y = .int p → 2 ≤ p → p ≤ 5 → ∀ (H' : Hp) (zs : List Int), Same H H' → zs.Perm (ns ++ [c]) → zs.Pairwise (· ≤ ·) → Q (.bl (decide (ab p zs zs.length = []))) H'
theorem len_may_put {vs H Q E} (h : sp_may_put K cBadPool cBadCoin cBadPeople vs H Q E) : vs.length = 3 := by
  obtain ⟨_, _, _, rfl, _⟩ := h; rfl
theorem ok_may_put {f : Addr} {fd : FuncData} (F : Fun K "may_put" "may_put" s_may_put f fd) (T : Txt K mg cBadPool cBadPeople cBadCoin) : FnOk P w K mg base (L2.CX P w) 4 f fd ps_may_put (sp_may_put K cBadPool cBadCoin cBadPeople) := by
  obtain ⟨f_check_pool, fd_check_pool, F_check_pool, m_check_pool, b_check_pool⟩ := T.d_check_pool
  have G_check_pool : FnOk P w K mg base (L2.CX P w) 3 f_check_pool fd_check_pool ps_check_pool (sp_check_pool K cBadPool) := ok_check_pool F_check_pool T
  obtain ⟨f_check_coin, fd_check_coin, F_check_coin, m_check_coin, b_check_coin⟩ := T.d_check_coin
  have G_check_coin : FnOk P w K mg base (L2.CX P w) 3 f_check_coin fd_check_coin ps_check_coin (sp_check_coin K cBadCoin) := ok_check_coin F_check_coin T
  obtain ⟨f_check_people, fd_check_people, F_check_people, m_check_people, b_check_people⟩ := T.d_check_people
  have G_check_people : FnOk P w K mg base (L2.CX P w) 3 f_check_people fd_check_people ps_check_people (sp_check_people K cBadPeople) := ok_check_people F_check_people T
  obtain ⟨f_is_serving, fd_is_serving, F_is_serving, m_is_serving, b_is_serving⟩ := T.d_is_serving
  have G_is_serving : FnOk P w K mg base CX0 3 f_is_serving fd_is_serving ps_is_serving (sp_is_serving K) := ok_is_serving F_is_serving T
  obtain ⟨u_LEAST_PEOPLE, c_LEAST_PEOPLE, r_LEAST_PEOPLE⟩ := T.c_LEAST_PEOPLE
  refine F.okX (k := 3) sc_may_put (fun vs H Q E h => len_may_put h) (fun cdv A outer s H vs Q E hr h => ?_)
  refine ⟨_, (pss_cons (ps_set (i := 3) sc_may_put.nd rfl (Or.inl rfl) (pe_call G_check_pool (hr.mono (by decide)) (by rfl) m_check_pool F_check_pool.kp b_check_pool .nil (passes_call (takes_of rfl rfl rfl rfl) fun _ _ _ _ z => z) (pa_cons (pv 0) pa_nil)))
      (pss_cons (ps_expr (pe_call G_check_coin (hr.mono (by decide)) (by rfl) m_check_coin F_check_coin.kp b_check_coin .nil (passes_call (takes_of rfl rfl rfl rfl) fun _ _ _ _ z => z) (pa_cons (pv 1) pa_nil)))
      (pss_cons (ps_expr (pe_call G_check_people (hr.mono (by decide)) (by rfl) m_check_people F_check_people.kp b_check_people .nil (passes_call (takes_of rfl rfl rfl rfl) fun _ _ _ _ z => z) (pa_cons (pv 2) (pa_cons (pe_glob rfl c_LEAST_PEOPLE r_LEAST_PEOPLE) pa_nil))))
      (pss_one (ps_ret (pe_call G_is_serving (hr.mono (by decide)) (by rfl) m_is_serving F_is_serving.kp b_is_serving .nil pass0 (pa_cons (pe_callB cr_sortedE (by rfl) T.n_sorted (by decide +kernel) (pa_cons (pe_op op_catA (pv 3) (pe_tup (pa_cons (pv 1) pa_nil))) pa_nil)) (pa_cons (pv 2) pa_nil)))))))), ?_⟩
  obtain ⟨x, u, y, rfl, hx, hu, hy, ⟨q1, q2⟩, q3, q4, q5⟩ := h
  simp only [tSeq, tAsg, tDrop, tRet, tRetN, tIfS, tNext, tTest, tB, tNot, tAnd, tOr, tChain, tIf, tAndV, tOrV, tNotV, tOp, tUn, tCB, tCons, tNil, tVar, tC, tCall, tCallS, gName, rI, rI0, rU, rEq, rNe, tTup, tLst, gSub, rSetL, rIxL, rIxT, L2.start, List.map_cons, List.map_nil, List.length_cons, List.length_nil, Nat.reduceAdd, Nat.reduceSub, List.replicate_succ, List.replicate_zero, List.getElem?_cons_zero, List.getElem?_cons_succ, List.set_cons_zero, List.set_cons_succ, Option.some.injEq, exists_eq_left', exists_eq_left, exists_and_left, V.int.injEq, V.bl.injEq, V.ref.injEq, V.str.injEq, List.cons.injEq, and_true, true_and, List.nil_append, List.cons_append, List.append_nil, reduceCtorEq, false_and, exists_false, or_false, false_or, and_false, Int.reduceNeg, decide_eq_true_eq, Bool.not_eq_true', decide_eq_false_iff_not, and_assoc, tYes, ↓reduceIte, wipe, Bool.false_eq_true, Bool.true_eq_false, cxOf, false_implies, true_implies, implies_true, forall_const, sp_check_pool, sp_check_people, sp_check_coin, sp_is_serving]
  refine ⟨hx, q1, q2, fun a ns e hr hl nb H1 b ms s hb p1 p2 => ⟨hu.same s, fun w0 => ⟨hy.same s, fun w1 => ?_, fun w2 => q4 a ns ⟨e, hr, hl, nb⟩ w0 w2 H1 s⟩, fun w1 => q3 a ns ⟨e, hr, hl, nb⟩ w1 H1 s⟩⟩
  obtain ⟨c, rfl, c0, c1⟩ := whole_of w0
  obtain ⟨p, rfl, p0, p5⟩ := whole_of w1
  simp only [tSeq, tAsg, tDrop, tRet, tRetN, tIfS, tNext, tTest, tB, tNot, tAnd, tOr, tChain, tIf, tAndV, tOrV, tNotV, tOp, tUn, tCB, tCons, tNil, tVar, tC, tCall, tCallS, gName, rI, rI0, rU, rEq, rNe, tTup, tLst, gSub, rSetL, rIxL, rIxT, L2.start, List.map_cons, List.map_nil, List.length_cons, List.length_nil, Nat.reduceAdd, Nat.reduceSub, List.replicate_succ, List.replicate_zero, List.getElem?_cons_zero, List.getElem?_cons_succ, List.set_cons_zero, List.set_cons_succ, Option.some.injEq, exists_eq_left', exists_eq_left, exists_and_left, V.int.injEq, V.bl.injEq, V.ref.injEq, V.str.injEq, List.cons.injEq, and_true, true_and, List.nil_append, List.cons_append, List.append_nil, reduceCtorEq, false_and, exists_false, or_false, false_or, and_false, Int.reduceNeg, decide_eq_true_eq, Bool.not_eq_true', decide_eq_false_iff_not, and_assoc, tYes, ↓reduceIte, wipe, Bool.false_eq_true, Bool.true_eq_false, cxOf, false_implies, true_implies, implies_true, forall_const]
  have ml : ms.length ≤ 12 := by rw [p1.length_eq]; exact hl
  have fin : ∀ (H2 : Hp) (t : Addr), Same H1 H2 → H2 t = some (.tup ((ms ++ [c]).map V.int)) → rSortedE K [V.ref t] H2 fun x H1 => ∃ a, x = V.ref a ∧ ∃ x, Row H1 a (List.map V.int x) ∧ x.length ≤ 100 ∧ 2 ≤ p ∧ p ≤ 5 ∧ ∀ (H' : Hp), Same H1 H' → Q (V.bl (decide (ab p x x.length = []))) H' := by
    intro H2 t s2 et
    refine ⟨t, ms ++ [c], rfl, .inr (SqT.of et), fun zs l z1 z2 hl2 => ⟨l, rfl, zs, .inr upd_same, ?_, p0, p5, fun H' s3 => ?_⟩⟩
    · rw [z1.length_eq, List.length_append]
      show ms.length + 1 ≤ 100
      omega
    · exact q5 a ns c p ⟨e, hr, hl, nb⟩ rfl c0 c1 rfl p0 p5 H' zs (s.trans (s2.trans ((Same.new hl2).trans s3))) (z1.trans (List.Perm.append_right _ p1)) z2
  refine ⟨by decide, fun t ht => ⟨b, t, _, _, rfl, rfl, SqT.of ((Same.new ht) _ _ hb), SqT.of upd_same, ?_, fun em => ?_, fun _ z => absurd z (by simp), fun _ _ t2 ht2 => ?_⟩⟩
  · rw [List.length_map]
    exact Nat.le_of_lt (Nat.lt_of_le_of_lt (show ms.length + 1 ≤ 100 by omega) (by decide))
  · have em2 : ms = [] := List.map_eq_nil_iff.mp em
    exact fin _ t (Same.new ht) (by rw [em2]; exact upd_same)
  · exact fin _ t2 ((Same.new ht).trans (Same.new ht2)) (by rw [upd_same, List.map_append]; rfl)
end
end My
set_option Elab.async false
set_option linter.all false
set_option maxRecDepth 100000
set_option maxHeartbeats 4000000
/-! ## which coins come: from low to high -/
namespace My
open PySem PySem.Spec PyProof.Rows L2 Gen
theorem room_iff {p c s : Int} (hp : 2 ≤ p) : c ≤ room p s ↔ (p - 1) * (c - 1) ≤ s := by
  unfold room
  have z := Int.le_ediv_iff_mul_le (a := c - 1) (b := s) (show 0 < p - 1 by omega)
  rw [Int.mul_comm] at z
  constructor
  · intro h
    exact z.mp (by omega)
  · intro h
    have := z.mpr h
    omega
theorem srv_of {p : Int} : ∀ {l : List Int} {q : Int}, (∀ (i : Nat) (c : Int), l[i]? = some c → c ≤ room p (q + (l.take i).sum)) → Srv p q l
  | [], _, _ => True.intro
  | d :: ds, q, h => by
    refine ⟨?_, srv_of fun i c hc => ?_⟩
    · have z := h 0 d rfl
      rw [List.take_zero, List.sum_nil, Int.add_zero] at z
      exact z
    · have z := h (i + 1) c hc
      rw [List.take_succ_cons, List.sum_cons, ← Int.add_assoc] at z
      exact z
theorem srv_app {p : Int} : ∀ {X Y : List Int} {q : Int}, Srv p q (X ++ Y) ↔ Srv p q X ∧ Srv p (q + X.sum) Y
  | [], Y, q => by
    rw [List.nil_append, List.sum_nil, Int.add_zero]
    exact ⟨fun h => ⟨True.intro, h⟩, fun h => h.2⟩
  | x :: X, Y, q => by
    rw [List.sum_cons, ← Int.add_assoc]
    exact ⟨fun h => ⟨⟨h.1, (srv_app.mp h.2).1⟩, (srv_app.mp h.2).2⟩, fun h => ⟨h.1.1, srv_app.mpr ⟨h.1.2, h.2⟩⟩⟩
theorem ab_in {p : Int} {ns : List Int} : ∀ {n j : Nat}, j < n → room p (ns.take j).sum < ns.getD j 0 → (j : Int) ∈ ab p ns n
  | 0, _, h, _ => absurd h (Nat.not_lt_zero _)
  | n + 1, j, h, g => by
    unfold ab
    rcases Nat.lt_succ_iff_lt_or_eq.mp h with h | h
    · exact List.mem_append.mpr (.inl (ab_in h g))
    · subst h
      rw [if_pos g]
      exact List.mem_append.mpr (.inr (List.mem_singleton.mpr rfl))
theorem ab_up {p : Int} {ns : List Int} : ∀ n : Nat, (ab p ns n).Pairwise (· < ·)
  | 0 => List.Pairwise.nil
  | n + 1 => by
    unfold ab
    refine List.pairwise_append.mpr ⟨ab_up n, ?_, fun x hx y hy => ?_⟩
    · split
      · exact List.pairwise_singleton _ _
      · exact List.Pairwise.nil
    · obtain ⟨j, rfl, jl, _⟩ := ab_mem hx
      split at hy
      · rw [List.mem_singleton.mp hy]
        omega
      · exact absurd hy List.not_mem_nil
theorem ab_nil {p : Int} {ns : List Int} : ab p ns ns.length = [] ↔ Srv p 0 ns := by
  constructor
  · intro h
    refine srv_of fun i c hc => ?_
    rw [Int.zero_add]
    refine Int.not_lt.mp fun g => ?_
    have il := (List.getElem?_eq_some_iff.mp hc).1
    have z := ab_in (p := p) (ns := ns) il (by rw [List.getD_eq_getElem?_getD, hc]; exact g)
    rw [h] at z
    exact absurd z List.not_mem_nil
  · intro h
    cases e : ab p ns ns.length with
    | nil => rfl
    | cons x l =>
      obtain ⟨j, _, jl, g⟩ := ab_mem (p := p) (ns := ns) (i := ns.length) (x := x) (by rw [e]; exact List.mem_cons_self)
      have hc : ns[j]? = some ns[j] := List.getElem?_eq_getElem jl
      have z := h.take hc
      rw [Int.zero_add] at z
      rw [List.getD_eq_getElem?_getD, hc] at g
      exact absurd z (Int.not_le.mpr g)
theorem insI_at {c : Int} : ∀ {l : List Int}, l.Pairwise (· ≤ ·) → ∃ A B, l = A ++ B ∧ insI c l = A ++ c :: B ∧ (∀ x, x ∈ A → x < c) ∧ ∀ x, x ∈ B → c ≤ x
  | [], _ => ⟨[], [], rfl, rfl, fun _ h => absurd h List.not_mem_nil, fun _ h => absurd h List.not_mem_nil⟩
  | d :: ds, h => by
    obtain ⟨h1, h2⟩ := List.pairwise_cons.mp h
    unfold insI
    split
    · rename_i e
      refine ⟨[], d :: ds, rfl, rfl, fun _ h => absurd h List.not_mem_nil, fun x hx => ?_⟩
      rcases List.mem_cons.mp hx with rfl | hx
      · exact e
      · have := h1 x hx
        omega
    · rename_i e
      obtain ⟨A, B, e1, e2, e3, e4⟩ := insI_at h2
      refine ⟨d :: A, B, by rw [e1]; rfl, by rw [e2]; rfl, fun x hx => ?_, e4⟩
      rcases List.mem_cons.mp hx with rfl | hx
      · omega
      · exact e3 x hx
theorem sum_nonneg {l : List Int} (h : ∀ x, x ∈ l → 1 ≤ x) : 0 ≤ l.sum := by
  induction l with
  | nil => exact Int.le_refl 0
  | cons x l ih =>
    have := ih fun y hy => h y (List.mem_cons_of_mem _ hy)
    have := h x List.mem_cons_self
    rw [List.sum_cons]
    omega
/-- a coin comes exactly if it is from low to high -/
theorem fits_iff {p c : Int} {ms zs : List Int} {r : Option (Int × Int)} (hp : 2 ≤ p) (hs : ms.Pairwise (· ≤ ·)) (mb : ∀ x, x ∈ ms → 1 ≤ x) (c1 : 1 ≤ c) (ft : Fits p ms r) (z1 : zs.Perm (ms ++ [c])) (z2 : zs.Pairwise (· ≤ ·)) :
    Srv p 0 zs ↔ ∃ l u, r = some (l, u) ∧ l ≤ c ∧ c ≤ u := by
  have ez : zs = insI c ms := PySem.W.os_sorted_one (z1.trans ((List.perm_append_comm (l₁ := ms)).trans (insI_perm c ms).symm)) z2 (insI_sorted hs)
  subst ez
  obtain ⟨A, B, e1, e2, eA, eB⟩ := insI_at (c := c) hs
  have full : Srv p 0 (insI c ms) ↔ Srv p 0 A ∧ c ≤ room p A.sum ∧ Srv p (A.sum + c) B := by
    rw [e2, srv_app, Int.zero_add]
    exact Iff.rfl
  have aB : ∀ x, x ∈ B → 1 ≤ x := fun x hx => mb x (by rw [e1]; exact List.mem_append.mpr (.inr hx))
  rw [full]
  cases e0 : ab p ms ms.length with
  | nil =>
    have rr := ft.1 e0
    have sm := ab_nil.mp e0
    have tot : ms.sum = A.sum + B.sum := by rw [e1, List.sum_append]
    have b0 := sum_nonneg aB
    constructor
    · rintro ⟨_, h, _⟩
      exact ⟨_, _, rr, c1, Int.le_trans h (room_mono hp (by omega))⟩
    · rintro ⟨l, u, e, _, h⟩
      rw [rr] at e
      cases e
      exact full.mp (Srv.ins hp (by omega) sm (by rw [Int.zero_add]; exact h))
  | cons j0 l0 =>
    obtain ⟨low, ⟨i1, hi1, el⟩, mx, er⟩ := ft.2 j0 l0 e0
    have up := ab_up (p := p) (ns := ms) ms.length
    obtain ⟨j, rfl, jl, gj⟩ := ab_mem (p := p) (ns := ms) (i := ms.length) (x := j0) (by rw [e0]; exact List.mem_cons_self)
    rw [Int.toNat_natCast] at er
    have idxA : ∀ i, i < A.length → ms[i]? = A[i]? ∧ ms.take i = A.take i := fun i hi => by
      rw [e1, List.getElem?_append_left hi, List.take_append_of_le_length (by omega)]
      exact ⟨rfl, rfl⟩
    have idxB : ∀ m, ms[A.length + m]? = B[m]? ∧ (ms.take (A.length + m)).sum = A.sum + (B.take m).sum := fun m => by
      rw [e1, List.getElem?_append_right (by omega), List.take_append, List.take_of_length_le (by omega), List.sum_append, Nat.add_sub_cancel_left]
      exact ⟨rfl, rfl⟩
    have get : ∀ i x, ms[i]? = some x → ms.getD i 0 = x := fun i x h => by rw [List.getD_eq_getElem?_getD, h]; rfl
    have bT : ∀ m, 0 ≤ (B.take m).sum := fun m => sum_nonneg fun x hx => aB x (List.mem_of_mem_take hx)
    have far : ∀ k : Nat, Srv p 0 A → k < ms.length → room p (ms.take k).sum < ms.getD k 0 → A.length ≤ k := fun k sA kl gk => by
      refine Nat.not_lt.mp fun lt => ?_
      have hk : ms[k]? = some ms[k] := List.getElem?_eq_getElem kl
      have z := sA.take (i := k) (c := ms[k]) (by rw [← (idxA k lt).1]; exact hk)
      rw [Int.zero_add, ← (idxA k lt).2] at z
      rw [get k _ hk] at gk
      omega
    constructor
    · rintro ⟨sA, cA, sB⟩
      have hAj := far j sA jl gj
      have hi : c ≤ room p (ms.take j).sum := by
        have z := (idxB (j - A.length)).2
        rw [show A.length + (j - A.length) = j by omega] at z
        have := bT (j - A.length)
        exact Int.le_trans cA (room_mono hp (by omega))
      have lo : low ≤ c := by
        obtain ⟨k, rfl, kl, gk⟩ := ab_mem hi1
        have hAk := far k sA kl gk
        have z := idxB (k - A.length)
        rw [show A.length + (k - A.length) = k by omega] at z
        have hk : ms[k]? = some ms[k] := List.getElem?_eq_getElem kl
        have y := sB.take (i := k - A.length) (c := ms[k]) (by rw [← z.1]; exact hk)
        rw [room_iff hp] at y
        rw [Int.toNat_natCast, get k _ hk] at el
        have z2 := z.2
        omega
      exact ⟨low, _, by rw [er, if_pos (by omega)], lo, hi⟩
    · rintro ⟨l, u, e, lc, cu⟩
      rw [er] at e
      split at e
      · cases e
        have hj : ms[j]? = some ms[j] := List.getElem?_eq_getElem jl
        rw [get j _ hj] at gj
        have hAj : A.length ≤ j := by
          refine Nat.not_lt.mp fun lt => ?_
          have z := eA ms[j] (List.mem_of_getElem? (by rw [← (idxA j lt).1]; exact hj))
          omega
        have first : ∀ k x, k < j → ms[k]? = some x → x ≤ room p (ms.take k).sum := fun k x kj hk => by
          refine Int.not_lt.mp fun g => ?_
          have kl := (List.getElem?_eq_some_iff.mp hk).1
          have z := ab_in (p := p) (ns := ms) kl (by rw [get k _ hk]; exact g)
          rw [e0] at z up
          rcases List.mem_cons.mp z with z | z
          · omega
          · have := (List.pairwise_cons.mp up).1 _ z
            omega
        refine ⟨srv_of fun i x hx => ?_, ?_, srv_of fun m x hx => ?_⟩
        · have il := (List.getElem?_eq_some_iff.mp hx).1
          rw [Int.zero_add, ← (idxA i il).2]
          exact first i x (by omega) (by rw [(idxA i il).1]; exact hx)
        · have z := (idxB (j - A.length)).2
          rw [show A.length + (j - A.length) = j by omega] at z
          cases hB : B with
          | nil =>
            rw [hB, List.take_nil, List.sum_nil] at z
            rw [show A.sum = (ms.take j).sum by omega]
            exact cu
          | cons b B2 =>
            have hb := idxB 0
            rw [Nat.add_zero, List.take_zero, List.sum_nil, hB] at hb
            have cb := eB b (by rw [hB]; exact List.mem_cons_self)
            rcases Nat.lt_or_ge A.length j with g | g
            · have y := first A.length b g hb.1
              rw [show A.sum = (ms.take A.length).sum by omega]
              omega
            · rw [show A.length = j by omega] at hb
              rw [show A.sum = (ms.take j).sum by omega]
              exact cu
        · have z := idxB m
          rw [room_iff hp]
          have hk : ms[A.length + m]? = some x := by rw [z.1]; exact hx
          have kl := (List.getElem?_eq_some_iff.mp hk).1
          have z2 := z.2
          rcases Int.lt_or_le (room p (ms.take (A.length + m)).sum) x with g | g
          · have y := mx _ (ab_in (p := p) (ns := ms) kl (by rw [get _ _ hk]; exact g))
            rw [Int.toNat_natCast, get _ _ hk] at y
            omega
          · have y := (room_iff hp).mp g
            omega
      · cases e
end My
set_option Elab.async false
set_option linter.all false
set_option maxRecDepth 100000
set_option maxHeartbeats 4000000
namespace My
open PySem PySem.Spec PyProof.Rows L2 Gen
section
variable {P : Program} {w : World} {K : PySem.W.Frag} {mg : Str → Option Value} {base : Heap} { cBadPool cBadPeople cBadCoin : Addr}
abbrev sp_l_mix (_ : PySem.W.Frag) : Sp := spMix
theorem len_l_mix {vs H Q E} (h : sp_l_mix K vs H Q E) : vs.length = 2 := by
  obtain ⟨_, _, rfl, _⟩ := h; rfl
theorem ok_l_mix {f : Addr} {fd : FuncData} (F : Fun K "_law_mix" "_law_mix" s_l_mix f fd) (T : Txt K mg cBadPool cBadPeople cBadCoin) : FnOk P w K mg base CX0 1 f fd ps_l_mix (sp_l_mix K) := by
  refine F.ok (k := 0) sc_l_mix (fun vs H Q E h => len_l_mix h) (fun cdv A outer s H vs Q E hr h => ?_)
  refine ⟨_, (pss_cons (ps_set (i := 2) sc_l_mix.nd rfl (Or.inl rfl) (pe_op op_mod (pe_callTy call_int1 (by rfl) T.n_int (by decide +kernel) (pa_cons (pe_op op_add (pe_op op_add (pe_op op_mul (pv 0) pe_int) (pe_op op_mul (pv 1) pe_int)) pe_int) pa_nil)) pe_int))
      (pss_cons (ps_set (i := 3) sc_l_mix.nd rfl (Or.inl rfl) (pe_op op_mod (pe_callTy call_int1 (by rfl) T.n_int (by decide +kernel) (pa_cons (pe_op op_add (pe_op op_add (pe_op op_mul (pv 2) (pv 2)) (pe_op op_mul (pe_op op_fdivW (pv 2) pe_int) pe_int)) (pe_op op_mul (pv 1) pe_int)) pa_nil)) pe_int))
      (pss_one (ps_ret (pe_op op_fdivW (pe_op op_mod (pe_callTy call_int1 (by rfl) T.n_int (by decide +kernel) (pa_cons (pe_op op_add (pe_op op_fdivW (pe_op op_mul (pv 3) (pv 3)) pe_int) (pv 2)) pa_nil)) pe_int) pe_int))))), ?_⟩
  obtain ⟨n, t, rfl, n0, n1, t0, t1, q⟩ := h
  simp only [tSeq, tAsg, tDrop, tRet, tRetN, tIfS, tNext, tTest, tB, tNot, tAnd, tOr, tChain, tIf, tAndV, tOrV, tNotV, tOp, tUn, tCB, tCons, tNil, tVar, tC, tCall, tCallS, gName, rI, rI0, rU, rEq, rNe, tTup, tLst, gSub, rSetL, rIxL, rIxT, L2.start, List.map_cons, List.map_nil, List.length_cons, List.length_nil, Nat.reduceAdd, Nat.reduceSub, List.replicate_succ, List.replicate_zero, List.getElem?_cons_zero, List.getElem?_cons_succ, List.set_cons_zero, List.set_cons_succ, Option.some.injEq, exists_eq_left', exists_eq_left, exists_and_left, V.int.injEq, V.bl.injEq, V.ref.injEq, V.str.injEq, List.cons.injEq, and_true, true_and, List.nil_append, List.cons_append, List.append_nil, reduceCtorEq, false_and, exists_false, or_false, false_or, and_false, Int.reduceNeg, decide_eq_true_eq, Bool.not_eq_true', decide_eq_false_iff_not, and_assoc, tYes, ↓reduceIte, wipe, Bool.false_eq_true, Bool.true_eq_false, cxOf, false_implies, true_implies, implies_true, forall_const]
  have a0 := Int.emod_nonneg (n * 48271 + t * 16807 + 11) (b := 2147483647) (by decide)
  have a1 := Int.emod_lt_of_pos (n * 48271 + t * 16807 + 11) (b := 2147483647) (by decide)
  generalize (n * 48271 + t * 16807 + 11) % 2147483647 = x at a0 a1 ⊢
  refine ⟨cmr (by decide) (by decide), cmr (by decide) (by decide), by decide, cml (by omega) (by omega), cdw (by decide) (by decide), cmr (by decide) (by decide), cmr (by decide) (by decide), by decide, ?_⟩
  have b0 := Int.emod_nonneg (x * x + x / 127 * 40692 + t * 69621) (b := 2147483399) (by decide)
  have b1 := Int.emod_lt_of_pos (x * x + x / 127 * 40692 + t * 69621) (b := 2147483399) (by decide)
  generalize (x * x + x / 127 * 40692 + t * 69621) % 2147483399 = y at b0 b1 ⊢
  exact ⟨cml (by omega) (by omega), cdw (by decide) (by decide), by decide, cdw (by decide) (by decide), q _ (Int.ediv_nonneg (Int.emod_nonneg _ (by decide)) (by decide))⟩
theorem abs_take {ns : List Int} {i : Nat} {c : Int} (h : ns[i]? = some c) : ((ns.take (i + 1)).map fun c => V.int (if c < 0 then -c else c)) = ((ns.take i).map fun c => V.int (if c < 0 then -c else c)) ++ [V.int (if c < 0 then -c else c)] := by
  rw [List.take_add_one, h, List.map_append]
  rfl
abbrev sp_l_hand (K : PySem.W.Frag) : Sp := spHand K
theorem len_l_hand {vs H Q E} (h : sp_l_hand K vs H Q E) : vs.length = 1 := by
  obtain ⟨_, _, rfl, _⟩ := h; rfl
theorem ok_l_hand {f : Addr} {fd : FuncData} (F : Fun K "_law_hand" "_law_hand" s_l_hand f fd) (T : Txt K mg cBadPool cBadPeople cBadCoin) : FnOk P w K mg base CX0 1 f fd ps_l_hand (sp_l_hand K) := by
  refine F.ok (k := 0) sc_l_hand (fun vs H Q E h => len_l_hand h) (fun cdv A outer s H vs Q E hr h => ?_)
  refine ⟨_, (pss_cons (ps_set (i := 1) sc_l_hand.nd rfl (Or.inl rfl) pe_int)
      (pss_cons (ps_for PassesOwn.never rfl (pi_enum (by rfl) T.n_enumerate (pa_cons (pv 0) pa_nil)) (pg_tup rfl (pgs_cons (pg_name (i := 2) sc_l_hand.nd rfl (Or.inl rfl)) (pgs_cons (pg_name (i := 3) sc_l_hand.nd rfl (Or.inl rfl)) pgs_nil)))
      (pss_one (ps_set (i := 1) sc_l_hand.nd rfl (Or.inl rfl) (pe_op op_mod (pe_callTy call_int1 (by rfl) T.n_int (by decide +kernel) (pa_cons (pe_op op_add (pe_op op_mul (pv 1) pe_int) (pe_op op_mul (pe_callTy call_int1 (by rfl) T.n_int (by decide +kernel) (pa_cons (pv 3) pa_nil)) (pe_op op_add (pv 2) pe_int))) pa_nil)) pe_int))))
      (pss_one (ps_ret (pe_lst (pa_cons (pe_lc (own := [("_law_cell", 3)]) (g := gName 3) (tt := tYes) rfl sc_l_hand.nd (pi_list (pv 0)) (blkOk_by (N := nm_l_hand) (sc := defScope s_l_hand) (by decide +kernel)) (fun _ _ _ _ _ => (pg_name (i := 3) sc_l_hand.nd rfl (Or.inl rfl))) (fun _ _ _ _ _ => pts_nil) (fun _ _ _ _ _ => (pe_callB call_abs (by rfl) T.n_abs (by decide +kernel) (pa_cons (pe_callTy call_int1 (by rfl) T.n_int (by decide +kernel) (pa_cons (pv 3) pa_nil)) pa_nil)))) (pa_cons pe_int (pa_cons pe_int (pa_cons (pv 1) pa_nil))))))))), ?_⟩
  obtain ⟨a, ns, rfl, hS, hn, q⟩ := h
  simp only [tSeq, tAsg, tDrop, tRet, tRetN, tIfS, tNext, tTest, tB, tNot, tAnd, tOr, tChain, tIf, tAndV, tOrV, tNotV, tOp, tUn, tCB, tCons, tNil, tVar, tC, tCall, tCallS, gName, rI, rI0, rU, rEq, rNe, tTup, tLst, gSub, rSetL, rIxL, rIxT, L2.start, List.map_cons, List.map_nil, List.length_cons, List.length_nil, Nat.reduceAdd, Nat.reduceSub, List.replicate_succ, List.replicate_zero, List.getElem?_cons_zero, List.getElem?_cons_succ, List.set_cons_zero, List.set_cons_succ, Option.some.injEq, exists_eq_left', exists_eq_left, exists_and_left, V.int.injEq, V.bl.injEq, V.ref.injEq, V.str.injEq, List.cons.injEq, and_true, true_and, List.nil_append, List.cons_append, List.append_nil, reduceCtorEq, false_and, exists_false, or_false, false_or, and_false, Int.reduceNeg, decide_eq_true_eq, Bool.not_eq_true', decide_eq_false_iff_not, and_assoc, tYes, ↓reduceIte, wipe, Bool.false_eq_true, Bool.true_eq_false, cxOf, false_implies, true_implies, implies_true, forall_const]
  refine ⟨_, rfl, a, _, rfl, hS, for_enum (K := K) (a := a) (xs := ns.map V.int) (fun i z h => ∃ (t : Int) (v u : Option V), z = [some (.ref a), some (.int t), v, u] ∧ 0 ≤ t ∧ t < 2147483629 ∧ Same H h)
    ⟨0, none, none, rfl, by decide, by decide, Same.refl H⟩ (fun i z h _ ⟨_, _, _, _, _, _, s⟩ => s.seq hS) ?_ ?_⟩
  · rintro i y T z h hi hT ⟨t, v, u, rfl, t0, t1, s⟩
    obtain ⟨c, hc, rfl⟩ := nat_map hi
    have hil := (List.getElem?_eq_some_iff.mp hc).1
    refine ⟨T, _, rfl, SqT.of upd_same, rfl, _, _, rfl, _, _, rfl, rfl, ?_⟩
    simp only [tSeq, tAsg, tDrop, tRet, tRetN, tIfS, tNext, tTest, tB, tNot, tAnd, tOr, tChain, tIf, tAndV, tOrV, tNotV, tOp, tUn, tCB, tCons, tNil, tVar, tC, tCall, tCallS, gName, rI, rI0, rU, rEq, rNe, tTup, tLst, gSub, rSetL, rIxL, rIxT, L2.start, List.map_cons, List.map_nil, List.length_cons, List.length_nil, Nat.reduceAdd, Nat.reduceSub, List.replicate_succ, List.replicate_zero, List.getElem?_cons_zero, List.getElem?_cons_succ, List.set_cons_zero, List.set_cons_succ, Option.some.injEq, exists_eq_left', exists_eq_left, exists_and_left, V.int.injEq, V.bl.injEq, V.ref.injEq, V.str.injEq, List.cons.injEq, and_true, true_and, List.nil_append, List.cons_append, List.append_nil, reduceCtorEq, false_and, exists_false, or_false, false_or, and_false, Int.reduceNeg, decide_eq_true_eq, Bool.not_eq_true', decide_eq_false_iff_not, and_assoc, tYes, ↓reduceIte, wipe, Bool.false_eq_true, Bool.true_eq_false, cxOf, false_implies, true_implies, implies_true, forall_const]
    exact ⟨cmr (by decide) (by decide), cmr (by omega) (by omega), by decide, Int.emod_nonneg _ (by decide), Int.emod_lt_of_pos _ (by decide), s.trans (Same.new hT)⟩
  · rintro z h ⟨t, v, u, rfl, t0, t1, s⟩
    simp only [tSeq, tAsg, tDrop, tRet, tRetN, tIfS, tNext, tTest, tB, tNot, tAnd, tOr, tChain, tIf, tAndV, tOrV, tNotV, tOp, tUn, tCB, tCons, tNil, tVar, tC, tCall, tCallS, gName, rI, rI0, rU, rEq, rNe, tTup, tLst, gSub, rSetL, rIxL, rIxT, L2.start, List.map_cons, List.map_nil, List.length_cons, List.length_nil, Nat.reduceAdd, Nat.reduceSub, List.replicate_succ, List.replicate_zero, List.getElem?_cons_zero, List.getElem?_cons_succ, List.set_cons_zero, List.set_cons_succ, Option.some.injEq, exists_eq_left', exists_eq_left, exists_and_left, V.int.injEq, V.bl.injEq, V.ref.injEq, V.str.injEq, List.cons.injEq, and_true, true_and, List.nil_append, List.cons_append, List.append_nil, reduceCtorEq, false_and, exists_false, or_false, false_or, and_false, Int.reduceNeg, decide_eq_true_eq, Bool.not_eq_true', decide_eq_false_iff_not, and_assoc, tYes, ↓reduceIte, wipe, Bool.false_eq_true, Bool.true_eq_false, cxOf, false_implies, true_implies, implies_true, forall_const]
    refine ⟨_, rfl, a, rfl, ⟨_, s.seq hS⟩, fun D hD => lc_list (K := K) (a := a) (xs := ns.map V.int) (fun i h' => Same h h' ∧ h' D = some (.lst ((ns.take i).map fun c => V.int (if c < 0 then -c else c)))) ⟨Same.new hD, upd_same⟩ (fun i h' _ ⟨s', _⟩ => (s.trans s').seq hS) ?_ ?_⟩
    · rintro i y h' hi ⟨s', e'⟩
      obtain ⟨c, hc, rfl⟩ := nat_map hi
      have hil := (List.getElem?_eq_some_iff.mp hc).1
      simp only [tSeq, tAsg, tDrop, tRet, tRetN, tIfS, tNext, tTest, tB, tNot, tAnd, tOr, tChain, tIf, tAndV, tOrV, tNotV, tOp, tUn, tCB, tCons, tNil, tVar, tC, tCall, tCallS, gName, rI, rI0, rU, rEq, rNe, tTup, tLst, gSub, rSetL, rIxL, rIxT, L2.start, List.map_cons, List.map_nil, List.length_cons, List.length_nil, Nat.reduceAdd, Nat.reduceSub, List.replicate_succ, List.replicate_zero, List.getElem?_cons_zero, List.getElem?_cons_succ, List.set_cons_zero, List.set_cons_succ, Option.some.injEq, exists_eq_left', exists_eq_left, exists_and_left, V.int.injEq, V.bl.injEq, V.ref.injEq, V.str.injEq, List.cons.injEq, and_true, true_and, List.nil_append, List.cons_append, List.append_nil, reduceCtorEq, false_and, exists_false, or_false, false_or, and_false, Int.reduceNeg, decide_eq_true_eq, Bool.not_eq_true', decide_eq_false_iff_not, and_assoc, tYes, ↓reduceIte, wipe, Bool.false_eq_true, Bool.true_eq_false, cxOf, false_implies, true_implies, implies_true, forall_const]
      refine ⟨_, e', by rw [List.length_map, List.length_take]; exact small1000 (by omega), fun b o e => ?_, by rw [upd_same, abs_take hc]⟩
      rw [upd_ne (ne_of_none e hD)]
      exact s' b o e
    · rintro h' ⟨s', e'⟩
      refine ⟨by decide, fun p hp => q p D _ (s.trans (s'.trans (Same.new hp))) ⟨ns.map fun c => if c < 0 then -c else c, 0, 0, t, upd_same, ?_, by rw [List.length_map]; exact hn, ?_, by omega, by omega, by omega, t0, t1⟩⟩
      · rw [upd_ne (ne_of_none e' hp), e', List.length_map, List.take_length, List.map_map]
        rfl
      · intro c hc
        obtain ⟨b, _, rfl⟩ := List.mem_map.mp hc
        split <;> omega
abbrev sp_l_draw (_ : PySem.W.Frag) : Sp := spDraw
theorem len_l_draw {vs H Q E} (h : sp_l_draw K vs H Q E) : vs.length = 2 := by
  obtain ⟨_, _, _, rfl, _⟩ := h; rfl
theorem ok_l_draw {f : Addr} {fd : FuncData} (F : Fun K "_law_draw" "_law_draw" s_l_draw f fd) (T : Txt K mg cBadPool cBadPeople cBadCoin) : FnOk P w K mg base CX0 2 f fd ps_l_draw (sp_l_draw K) := by
  obtain ⟨f_l_mix, fd_l_mix, F_l_mix, m_l_mix, b_l_mix⟩ := T.d_l_mix
  have G_l_mix : FnOk P w K mg base CX0 1 f_l_mix fd_l_mix ps_l_mix (sp_l_mix K) := ok_l_mix F_l_mix T
  refine F.ok (k := 1) sc_l_draw (fun vs H Q E h => len_l_draw h) (fun cdv A outer s H vs Q E hr h => ?_)
  refine ⟨_, (pss_cons (ps_if (PW.pt (pw_and (pt_cmpR op_eq (pe_ix ix_list (pv 0) pe_int (fun _ _ => rfl)) pe_int (nomark _)) (pw_and1 (pt_cmpR op_lt (pe_ix ix_list (pv 0) pe_int (fun _ _ => rfl)) (pe_callB call_len_seq (by rfl) T.n_len (by decide +kernel) (pa_cons (pe_ix ix_list (pv 0) pe_int (fun _ _ => rfl)) pa_nil)) (nomark _))))) (pss_cons (ps_set (i := 2) sc_l_draw.nd rfl (Or.inl rfl) (pe_ix ix_list (pe_ix ix_list (pv 0) pe_int (fun _ _ => rfl)) (pe_ix ix_list (pv 0) pe_int (fun _ _ => rfl)) (fun _ _ => rfl)))
      (pss_cons (ps_asg (pe_op op_add (pe_ix ix_list (pv 0) pe_int (fun _ _ => rfl)) pe_int) (pg_sub (pv 0) pe_int set_list))
      (pss_cons (ps_if (pt_cmpR op_lt (pv 2) (pe_op op_pow pe_int pe_int) (nomark _)) (pss_one (ps_ret (pe_op op_mod (pe_callTy call_int1 (by rfl) T.n_int (by decide +kernel) (pa_cons (pe_call G_l_mix (hr.mono (by decide)) (by rfl) m_l_mix F_l_mix.kp b_l_mix .nil pass0 (pa_cons (pe_op op_mod (pe_callTy call_int1 (by rfl) T.n_int (by decide +kernel) (pa_cons (pv 2) pa_nil)) pe_int) (pa_cons (pe_ix ix_list (pv 0) pe_int (fun _ _ => rfl)) pa_nil))) pa_nil)) (pv 1)))) pss_nil)
      (pss_one (ps_asg (pv 2) (pg_sub (pv 0) pe_int set_list)))))) pss_nil)
      (pss_cons (ps_if (pt_cmpR op_gt (pe_ix ix_list (pv 0) pe_int (fun _ _ => rfl)) pe_int (nomark _)) (pss_cons (ps_set (i := 3) sc_l_draw.nd rfl (Or.inl rfl) (pe_ix ix_list (pv 0) pe_int (fun _ _ => rfl)))
      (pss_cons (ps_asg (pe_op op_fdivW (pv 3) (pv 1)) (pg_sub (pv 0) pe_int set_list))
      (pss_one (ps_ret (pe_op op_mod (pe_callTy call_int1 (by rfl) T.n_int (by decide +kernel) (pa_cons (pv 3) pa_nil)) (pv 1)))))) pss_nil)
      (pss_cons (ps_asg (pe_op op_mod (pe_callTy call_int1 (by rfl) T.n_int (by decide +kernel) (pa_cons (pe_op op_add (pe_ix ix_list (pv 0) pe_int (fun _ _ => rfl)) pe_int) pa_nil)) pe_int) (pg_sub (pv 0) pe_int set_list))
      (pss_one (ps_ret (pe_op op_mod (pe_callTy call_int1 (by rfl) T.n_int (by decide +kernel) (pa_cons (pe_call G_l_mix (hr.mono (by decide)) (by rfl) m_l_mix F_l_mix.kp b_l_mix .nil pass0 (pa_cons (pe_ix ix_list (pv 0) pe_int (fun _ _ => rfl)) (pa_cons (pe_ix ix_list (pv 0) pe_int (fun _ _ => rfl)) pa_nil))) pa_nil)) (pv 1))))))), ?_⟩
  obtain ⟨h, q, m, rfl, hh, m0, m1, k⟩ := h
  obtain ⟨cs, i, r, t, h1, h2, cl, c0, i0, il, r0, t0, t1⟩ := hh.ex
  simp only [tSeq, tAsg, tDrop, tRet, tRetN, tIfS, tNext, tTest, tB, tNot, tAnd, tOr, tChain, tIf, tAndV, tOrV, tNotV, tOp, tUn, tCB, tCons, tNil, tVar, tC, tCall, tCallS, gName, rI, rI0, rU, rEq, rNe, tTup, tLst, gSub, rSetL, rIxL, rIxT, L2.start, List.map_cons, List.map_nil, List.length_cons, List.length_nil, Nat.reduceAdd, Nat.reduceSub, List.replicate_succ, List.replicate_zero, List.getElem?_cons_zero, List.getElem?_cons_succ, List.set_cons_zero, List.set_cons_succ, Option.some.injEq, exists_eq_left', exists_eq_left, exists_and_left, V.int.injEq, V.bl.injEq, V.ref.injEq, V.str.injEq, List.cons.injEq, and_true, true_and, List.nil_append, List.cons_append, List.append_nil, reduceCtorEq, false_and, exists_false, or_false, false_or, and_false, Int.reduceNeg, decide_eq_true_eq, Bool.not_eq_true', decide_eq_false_iff_not, and_assoc, tYes, ↓reduceIte, wipe, Bool.false_eq_true, Bool.true_eq_false, cxOf, false_implies, true_implies, implies_true, forall_const, spMix]
  refine ⟨_, SqL.of h1, _, rfl, rfl, ?_⟩
  split
  · rename_i e
    obtain rfl : r = 0 := by injection e
    refine ⟨_, SqL.of h1, _, rfl, _, SqL.of h1, _, rfl, q, rfl, _, .inl (SqL.of h2), i, rfl, ?_⟩
    split
    · rename_i hi
      obtain ⟨j, rfl⟩ := Int.eq_ofNat_of_zero_le i0
      have hj : j < cs.length := by
        rw [List.length_map] at hi
        omega
      have hc' : (cs.map V.int)[j]? = some (.int cs[j]) := by rw [List.getElem?_map, List.getElem?_eq_getElem hj]; rfl
      have cj : 0 ≤ cs[j] := c0 _ (List.getElem_mem hj)
      have e18 : (10 : Int) ^ Int.toNat 18 = 1000000000000000000 := by decide
      refine ⟨_, SqL.of h1, _, rfl, _, SqL.of h1, _, rfl, q, rfl, _, _, rfl, SqL.of h2, _, atI_nat hc', _, SqL.of h1, _, rfl, _, rfl, _, h1, 1, rfl, ⟨by decide, by decide, by decide⟩, cs[j], rfl, ?_⟩
      split
      · refine .inl ⟨cs[j], rfl, by decide, _, SqL.of upd_same, _, rfl, _, rfl, Int.emod_nonneg _ (by decide), Int.lt_trans (Int.emod_lt_of_pos _ (by decide)) (by decide), by omega, by omega, fun r' hr' => ⟨m0, k _ _ (Int.emod_nonneg _ (by omega)) (Int.emod_lt_of_pos _ m0) ?_ But.upd⟩⟩
        exact ⟨cs, (j : Int) + 1, 0, t, upd_same, by rw [upd_ne hh.ne.symm]; exact h2, cl, c0, by omega, by omega, by omega, t0, t1⟩
      · rename_i e2
        rw [e18] at e2
        refine ⟨_, upd_same, 2, rfl, _, SqL.of upd_same, _, rfl, cs[j], rfl, ?_⟩
        rw [if_pos (by omega)]
        refine ⟨_, SqL.of upd_same, _, rfl, cs[j], rfl, cdw m0 m1, _, upd_same, 2, rfl, .inl ⟨cs[j], rfl, m0, k _ _ (Int.emod_nonneg _ (by omega)) (Int.emod_lt_of_pos _ m0) ?_ But.upd.then.then⟩⟩
        exact ⟨cs, (j : Int) + 1, cs[j] / m, t, upd_same, by rw [upd_ne hh.ne.symm, upd_ne hh.ne.symm, upd_ne hh.ne.symm]; exact h2, cl, c0, by omega, by omega, Int.ediv_nonneg cj (by omega), t0, t1⟩
    · rename_i hi
      refine ⟨_, SqL.of h1, _, rfl, 0, rfl, ?_⟩
      rw [if_neg (by decide)]
      refine ⟨_, SqL.of h1, _, rfl, t, rfl, by decide, _, h1, 3, rfl, _, SqL.of upd_same, _, rfl, _, SqL.of upd_same, _, rfl, _, rfl, _, rfl, Int.emod_nonneg _ (by decide), Int.lt_trans (Int.emod_lt_of_pos _ (by decide)) (by decide), by omega, by omega,
        fun r' hr' => ⟨m0, k _ _ (Int.emod_nonneg _ (by omega)) (Int.emod_lt_of_pos _ m0) ?_ But.upd⟩⟩
      exact ⟨cs, i, 0, (t + 1) % 2147483629, upd_same, by rw [upd_ne hh.ne.symm]; exact h2, cl, c0, by omega, by omega, by omega, Int.emod_nonneg _ (by decide), Int.emod_lt_of_pos _ (by decide)⟩
  · rename_i e
    have e' : r ≠ 0 := fun z => e (by rw [z])
    refine ⟨_, SqL.of h1, _, rfl, r, rfl, ?_⟩
    rw [if_pos (by omega)]
    refine ⟨_, SqL.of h1, _, rfl, r, rfl, cdw m0 m1, _, h1, 2, rfl, .inl ⟨r, rfl, m0, k _ _ (Int.emod_nonneg _ (by omega)) (Int.emod_lt_of_pos _ m0) ?_ But.upd⟩⟩
    exact ⟨cs, i, r / m, t, upd_same, by rw [upd_ne hh.ne.symm]; exact h2, cl, c0, by omega, by omega, Int.ediv_nonneg r0 (by omega), t0, t1⟩
end
end My
set_option Elab.async false
set_option linter.all false
set_option maxRecDepth 100000
set_option maxHeartbeats 4000000
namespace My
open PySem PySem.Spec PyProof.Rows L2 Gen
section
variable {P : Program} {w : World} {K : PySem.W.Frag} {mg : Str → Option Value} {base : Heap} { cBadPool cBadPeople cBadCoin : Addr}
theorem filter_sum {r : Int} : ∀ {l : List Int}, (∀ x, x ∈ l → 0 ≤ x) → 0 ≤ (l.filter fun x => decide (x ≤ r)).sum ∧ (l.filter fun x => decide (x ≤ r)).sum ≤ l.sum
  | [], _ => ⟨Int.le_refl 0, Int.le_refl 0⟩
  | x :: l, h => by
    have ih := filter_sum (r := r) fun y hy => h y (List.mem_cons_of_mem _ hy)
    have x0 := h x List.mem_cons_self
    by_cases e : x ≤ r
    · rw [List.filter_cons_of_pos (by simpa using e), List.sum_cons, List.sum_cons]
      omega
    · rw [List.filter_cons_of_neg (by simpa using e), List.sum_cons]
      omega
def sp_l_pick (_ : PySem.W.Frag) : Sp := fun vs H Q _ => ∃ (h q l : Addr) (xs : List V), vs = [.ref h, .ref l] ∧ HandAt H h q ∧ H l = some (.lst xs) ∧ 0 < xs.length ∧ xs.length ≤ 1000 ∧ l ≠ h ∧
  ∀ v H', v ∈ xs → HandAt H' h q → But h H H' → Q v H'
theorem len_l_pick {vs H Q E} (h : sp_l_pick K vs H Q E) : vs.length = 2 := by
  obtain ⟨_, _, _, _, rfl, _⟩ := h; rfl
theorem ok_l_pick {f : Addr} {fd : FuncData} (F : Fun K "_law_pick" "_law_pick" s_l_pick f fd) (T : Txt K mg cBadPool cBadPeople cBadCoin) : FnOk P w K mg base CX0 3 f fd ps_l_pick (sp_l_pick K) := by
  obtain ⟨f_l_draw, fd_l_draw, F_l_draw, m_l_draw, b_l_draw⟩ := T.d_l_draw
  have G_l_draw : FnOk P w K mg base CX0 2 f_l_draw fd_l_draw ps_l_draw (sp_l_draw K) := ok_l_draw F_l_draw T
  refine F.ok (k := 2) sc_l_pick (fun vs H Q E h => len_l_pick h) (fun cdv A outer s H vs Q E hr h => ?_)
  refine ⟨_, (pss_one (ps_ret (pe_ix ix_list (pv 1) (pe_call G_l_draw (hr.mono (by decide)) (by rfl) m_l_draw F_l_draw.kp b_l_draw .nil pass0 (pa_cons (pv 0) (pa_cons (pe_callB call_len_seq (by rfl) T.n_len (by decide +kernel) (pa_cons (pv 1) pa_nil)) pa_nil))) (fun _ _ => rfl)))), ?_⟩
  obtain ⟨h, q, l, xs, rfl, hh, hl, l0, l1, ne, k⟩ := h
  simp only [tSeq, tAsg, tDrop, tRet, tRetN, tIfS, tNext, tTest, tB, tNot, tAnd, tOr, tChain, tIf, tAndV, tOrV, tNotV, tOp, tUn, tCB, tCons, tNil, tVar, tC, tCall, tCallS, gName, rI, rI0, rU, rEq, rNe, tTup, tLst, gSub, rSetL, rIxL, rIxT, L2.start, List.map_cons, List.map_nil, List.length_cons, List.length_nil, Nat.reduceAdd, Nat.reduceSub, List.replicate_succ, List.replicate_zero, List.getElem?_cons_zero, List.getElem?_cons_succ, List.set_cons_zero, List.set_cons_succ, Option.some.injEq, exists_eq_left', exists_eq_left, exists_and_left, V.int.injEq, V.bl.injEq, V.ref.injEq, V.str.injEq, List.cons.injEq, and_true, true_and, List.nil_append, List.cons_append, List.append_nil, reduceCtorEq, false_and, exists_false, or_false, false_or, and_false, Int.reduceNeg, decide_eq_true_eq, Bool.not_eq_true', decide_eq_false_iff_not, and_assoc, tYes, ↓reduceIte, wipe, Bool.false_eq_true, Bool.true_eq_false, cxOf, false_implies, true_implies, implies_true, forall_const, spDraw]
  refine ⟨_, .inl (SqL.of hl), q, hh, by omega, by omega, fun d H' d0 d1 hh' bt => ?_⟩
  obtain ⟨j, rfl⟩ := Int.eq_ofNat_of_zero_le d0
  have hj : j < xs.length := by omega
  exact ⟨xs, SqL.of (bt _ _ hl ne), xs[j], atI_nat (List.getElem?_eq_getElem hj), k _ _ (List.getElem_mem hj) hh' bt⟩
def sp_l_is_whole (_ : PySem.W.Frag) : Sp := fun vs H Q _ => ∃ x : V, vs = [x] ∧ Plain H x ∧ Q (.bl (isI x)) H
theorem len_l_is_whole {vs H Q E} (h : sp_l_is_whole K vs H Q E) : vs.length = 1 := by
  obtain ⟨_, rfl, _⟩ := h; rfl
theorem ok_l_is_whole {f : Addr} {fd : FuncData} (F : Fun K "_law_is_whole" "_law_is_whole" s_l_is_whole f fd) (T : Txt K mg cBadPool cBadPeople cBadCoin) : FnOk P w K mg base CX0 1 f fd ps_l_is_whole (sp_l_is_whole K) := by
  refine F.ok (k := 0) sc_l_is_whole (fun vs H Q E h => len_l_is_whole h) (fun cdv A outer s H vs Q E hr h => ?_)
  refine ⟨_, (pss_one (ps_ret (pe_and (pe_callB call_isi (by rfl) T.n_isinstance (by decide +kernel) (pa_cons (pv 0) (pa_cons (pe_bltn (v := .ty "int") (by rfl) T.n_int (by decide +kernel) rfl) pa_nil))) (pe_one (pe_not (pe_callB call_isi (by rfl) T.n_isinstance (by decide +kernel) (pa_cons (pv 0) (pa_cons (pe_bltn (v := .ty "bool") (by rfl) T.n_bool (by decide +kernel) rfl) pa_nil)))))))), ?_⟩
  obtain ⟨x, rfl, hp, q⟩ := h
  simp only [tSeq, tAsg, tDrop, tRet, tRetN, tIfS, tNext, tTest, tB, tNot, tAnd, tOr, tChain, tIf, tAndV, tOrV, tNotV, tOp, tUn, tCB, tCons, tNil, tVar, tC, tCall, tCallS, gName, rI, rI0, rU, rEq, rNe, tTup, tLst, gSub, rSetL, rIxL, rIxT, L2.start, List.map_cons, List.map_nil, List.length_cons, List.length_nil, Nat.reduceAdd, Nat.reduceSub, List.replicate_succ, List.replicate_zero, List.getElem?_cons_zero, List.getElem?_cons_succ, List.set_cons_zero, List.set_cons_succ, Option.some.injEq, exists_eq_left', exists_eq_left, exists_and_left, V.int.injEq, V.bl.injEq, V.ref.injEq, V.str.injEq, List.cons.injEq, and_true, true_and, List.nil_append, List.cons_append, List.append_nil, reduceCtorEq, false_and, exists_false, or_false, false_or, and_false, Int.reduceNeg, decide_eq_true_eq, Bool.not_eq_true', decide_eq_false_iff_not, and_assoc, tYes, ↓reduceIte, wipe, Bool.false_eq_true, Bool.true_eq_false, cxOf, false_implies, true_implies, implies_true, forall_const]
  refine isi_int hp ?_
  cases x with
  | int i => exact ⟨true, rfl, iteT (isi_bool hp ⟨false, rfl, q⟩)⟩
  | bl i => exact ⟨true, rfl, iteT (isi_bool hp ⟨true, rfl, q⟩)⟩
  | _ => exact ⟨false, rfl, iteF q⟩
def sp_l_up (_ : PySem.W.Frag) : Sp := fun vs H Q _ => ∃ t p : Int, vs = [.int t, .int p] ∧ 2 ≤ p ∧ p ≤ 5 ∧ Q (.int ((t + p - 1) / p)) H
theorem len_l_up {vs H Q E} (h : sp_l_up K vs H Q E) : vs.length = 2 := by
  obtain ⟨_, _, rfl, _⟩ := h; rfl
theorem ok_l_up {f : Addr} {fd : FuncData} (F : Fun K "_law_up" "_law_up" s_l_up f fd) (T : Txt K mg cBadPool cBadPeople cBadCoin) : FnOk P w K mg base CX0 1 f fd ps_l_up (sp_l_up K) := by
  refine F.ok (k := 0) sc_l_up (fun vs H Q E h => len_l_up h) (fun cdv A outer s H vs Q E hr h => ?_)
  refine ⟨_, (pss_one (ps_ret (pe_op op_fdivW (pe_op op_sub (pe_op op_add (pv 0) (pv 1)) pe_int) (pv 1)))), ?_⟩
  obtain ⟨t, p, rfl, h2, h5, q⟩ := h
  simp only [tSeq, tAsg, tDrop, tRet, tRetN, tIfS, tNext, tTest, tB, tNot, tAnd, tOr, tChain, tIf, tAndV, tOrV, tNotV, tOp, tUn, tCB, tCons, tNil, tVar, tC, tCall, tCallS, gName, rI, rI0, rU, rEq, rNe, tTup, tLst, gSub, rSetL, rIxL, rIxT, L2.start, List.map_cons, List.map_nil, List.length_cons, List.length_nil, Nat.reduceAdd, Nat.reduceSub, List.replicate_succ, List.replicate_zero, List.getElem?_cons_zero, List.getElem?_cons_succ, List.set_cons_zero, List.set_cons_succ, Option.some.injEq, exists_eq_left', exists_eq_left, exists_and_left, V.int.injEq, V.bl.injEq, V.ref.injEq, V.str.injEq, List.cons.injEq, and_true, true_and, List.nil_append, List.cons_append, List.append_nil, reduceCtorEq, false_and, exists_false, or_false, false_or, and_false, Int.reduceNeg, decide_eq_true_eq, Bool.not_eq_true', decide_eq_false_iff_not, and_assoc, tYes, ↓reduceIte, wipe, Bool.false_eq_true, Bool.true_eq_false, cxOf, false_implies, true_implies, implies_true, forall_const]
  exact ⟨cdw (by omega) (by omega), q⟩
def sp_l_next (_ : PySem.W.Frag) : Sp := fun vs H Q _ => ∃ t p : Int, vs = [.int t, .int p] ∧ 2 ≤ p ∧ p ≤ 5 ∧ Q (.int (room p t)) H
theorem len_l_next {vs H Q E} (h : sp_l_next K vs H Q E) : vs.length = 2 := by
  obtain ⟨_, _, rfl, _⟩ := h; rfl
theorem ok_l_next {f : Addr} {fd : FuncData} (F : Fun K "_law_next" "_law_next" s_l_next f fd) (T : Txt K mg cBadPool cBadPeople cBadCoin) : FnOk P w K mg base CX0 1 f fd ps_l_next (sp_l_next K) := by
  refine F.ok (k := 0) sc_l_next (fun vs H Q E h => len_l_next h) (fun cdv A outer s H vs Q E hr h => ?_)
  refine ⟨_, (pss_one (ps_ret (pe_op op_add (pe_op op_fdivW (pv 0) (pe_op op_sub (pv 1) pe_int)) pe_int))), ?_⟩
  obtain ⟨t, p, rfl, h2, h5, q⟩ := h
  simp only [tSeq, tAsg, tDrop, tRet, tRetN, tIfS, tNext, tTest, tB, tNot, tAnd, tOr, tChain, tIf, tAndV, tOrV, tNotV, tOp, tUn, tCB, tCons, tNil, tVar, tC, tCall, tCallS, gName, rI, rI0, rU, rEq, rNe, tTup, tLst, gSub, rSetL, rIxL, rIxT, L2.start, List.map_cons, List.map_nil, List.length_cons, List.length_nil, Nat.reduceAdd, Nat.reduceSub, List.replicate_succ, List.replicate_zero, List.getElem?_cons_zero, List.getElem?_cons_succ, List.set_cons_zero, List.set_cons_succ, Option.some.injEq, exists_eq_left', exists_eq_left, exists_and_left, V.int.injEq, V.bl.injEq, V.ref.injEq, V.str.injEq, List.cons.injEq, and_true, true_and, List.nil_append, List.cons_append, List.append_nil, reduceCtorEq, false_and, exists_false, or_false, false_or, and_false, Int.reduceNeg, decide_eq_true_eq, Bool.not_eq_true', decide_eq_false_iff_not, and_assoc, tYes, ↓reduceIte, wipe, Bool.false_eq_true, Bool.true_eq_false, cxOf, false_implies, true_implies, implies_true, forall_const]
  exact ⟨cdw (by omega) (by omega), q⟩
def sp_l_odd_people (_ : PySem.W.Frag) : Sp := fun vs H Q _ => ∃ h q : Addr, vs = [.ref h] ∧ HandAt H h q ∧ ∀ x H', Plain H' x → whole x 2 5 = false → HandAt H' h q → But h H H' → Q x H'
theorem len_l_odd_people {vs H Q E} (h : sp_l_odd_people K vs H Q E) : vs.length = 1 := by
  obtain ⟨_, _, rfl, _⟩ := h; rfl
theorem ok_l_odd_people {f : Addr} {fd : FuncData} (F : Fun K "_law_odd_people" "_law_odd_people" s_l_odd_people f fd) (T : Txt K mg cBadPool cBadPeople cBadCoin) : FnOk P w K mg base CX0 4 f fd ps_l_odd_people (sp_l_odd_people K) := by
  obtain ⟨f_l_pick, fd_l_pick, F_l_pick, m_l_pick, b_l_pick⟩ := T.d_l_pick
  have G_l_pick : FnOk P w K mg base CX0 3 f_l_pick fd_l_pick ps_l_pick (sp_l_pick K) := ok_l_pick F_l_pick T
  refine F.ok (k := 3) sc_l_odd_people (fun vs H Q E h => len_l_odd_people h) (fun cdv A outer s H vs Q E hr h => ?_)
  refine ⟨_, (pss_one (ps_ret (pe_call G_l_pick (hr.mono (by decide)) (by rfl) m_l_pick F_l_pick.kp b_l_pick .nil pass0 (pa_cons (pv 0) (pa_cons (pe_lst (pa_cons pe_int (pa_cons pe_int (pa_cons pe_int (pa_cons (pe_un un_neg pe_int) (pa_cons pe_non (pa_cons pe_bl (pa_cons pe_str (pa_cons (pe_tup (pa_cons pe_int pa_nil)) (pa_cons (pe_op op_pow pe_int pe_int) pa_nil)))))))))) pa_nil))))), ?_⟩
  obtain ⟨h, q, rfl, hh, k⟩ := h
  simp only [tSeq, tAsg, tDrop, tRet, tRetN, tIfS, tNext, tTest, tB, tNot, tAnd, tOr, tChain, tIf, tAndV, tOrV, tNotV, tOp, tUn, tCB, tCons, tNil, tVar, tC, tCall, tCallS, gName, rI, rI0, rU, rEq, rNe, tTup, tLst, gSub, rSetL, rIxL, rIxT, L2.start, List.map_cons, List.map_nil, List.length_cons, List.length_nil, Nat.reduceAdd, Nat.reduceSub, List.replicate_succ, List.replicate_zero, List.getElem?_cons_zero, List.getElem?_cons_succ, List.set_cons_zero, List.set_cons_succ, Option.some.injEq, exists_eq_left', exists_eq_left, exists_and_left, V.int.injEq, V.bl.injEq, V.ref.injEq, V.str.injEq, List.cons.injEq, and_true, true_and, List.nil_append, List.cons_append, List.append_nil, reduceCtorEq, false_and, exists_false, or_false, false_or, and_false, Int.reduceNeg, decide_eq_true_eq, Bool.not_eq_true', decide_eq_false_iff_not, and_assoc, tYes, ↓reduceIte, wipe, Bool.false_eq_true, Bool.true_eq_false, cxOf, false_implies, true_implies, implies_true, forall_const, sp_l_pick]
  refine ⟨by decide, fun p hp => ⟨⟨by decide, by decide, by decide⟩, by decide, fun l hl => ?_⟩⟩
  have hl' : H l = none := Same.free (Same.new hp) hl
  have st := (Same.new hp).trans (Same.new (o := HO.lst [V.int 1, V.int 0, V.int 6, V.int (-2), V.non, V.bl true, V.str (Str.ofString "2"), V.ref p, V.int (10 ^ Int.toNat 20)]) hl)
  refine ⟨q, hh.same st, _, upd_same, by show 0 < 9; decide, by show 9 ≤ 1000; decide, hh.off hl', fun v H' hv hh' bt => ?_⟩
  have bt' : But h H H' := (But.of st).trans bt
  have hpp : H' p = some (.tup [V.int 2]) := bt _ _ (by rw [upd_ne (ne_of_none upd_same hl), upd_same]) (hh.off hp)
  simp only [List.mem_cons, List.not_mem_nil, or_false] at hv
  rcases hv with rfl | rfl | rfl | rfl | rfl | rfl | rfl | rfl | rfl
  all_goals first
    | exact k _ _ trivial (by decide +kernel) hh' bt'
    | exact k _ _ (.inl ⟨_, hpp⟩) rfl hh' bt'
theorem srv_up2 {p c r : Int} (p0 : 2 ≤ p) (p1 : p ≤ 5) (h : room p r < c) : (r + c + p - 1) / p < c := by
  unfold room at h
  have e : p = 2 ∨ p = 3 ∨ p = 4 ∨ p = 5 := by omega
  rcases e with rfl | rfl | rfl | rfl <;> omega
theorem srv_snoc {p : Int} : ∀ {ns : List Int} {r c : Int}, Srv p r (ns ++ [c]) ↔ Srv p r ns ∧ c ≤ room p (r + ns.sum)
  | [], r, c => by
    rw [List.sum_nil, Int.add_zero]
    exact ⟨fun h => ⟨True.intro, h.1⟩, fun h => ⟨h.2, True.intro⟩⟩
  | d :: ds, r, c => by
    rw [List.sum_cons, ← Int.add_assoc]
    constructor
    · rintro ⟨h1, h2⟩
      have z := srv_snoc.mp h2
      exact ⟨⟨h1, z.1⟩, z.2⟩
    · rintro ⟨⟨h1, h2⟩, h3⟩
      exact ⟨h1, srv_snoc.mpr ⟨h2, h3⟩⟩
theorem srv_left {p : Int} : ∀ {a b : List Int} {r : Int}, Srv p r (a ++ b) → Srv p r a
  | [], _, _, _ => True.intro
  | _ :: _, _, _, h => ⟨h.1, srv_left h.2⟩
theorem srv_take {p : Int} {ns : List Int} {i : Nat} (h : Srv p 0 ns) : Srv p 0 (ns.take i) := by
  rw [← List.take_append_drop i ns] at h
  exact srv_left h
/-- whether coins serve, in any order: a list or a tuple -/
def sp_l_serves (_ : PySem.W.Frag) : Sp := fun vs H Q _ => ∃ (a : Addr) (ns : List Int) (p : Int), vs = [.ref a, .int p] ∧ Row H a (ns.map V.int) ∧ 2 ≤ p ∧ p ≤ 5 ∧
  ∀ (ms : List Int) (H' : Hp), Same H H' → ms.Perm ns → ms.Pairwise (· ≤ ·) → (Srv p 0 ms → Q (.bl true) H') ∧ (¬ Srv p 0 ms → Q (.bl false) H')
theorem len_l_serves {vs H Q E} (h : sp_l_serves K vs H Q E) : vs.length = 2 := by
  obtain ⟨_, _, _, rfl, _⟩ := h; rfl
theorem ok_l_serves {f : Addr} {fd : FuncData} (F : Fun K "_law_serves" "_law_serves" s_l_serves f fd) (T : Txt K mg cBadPool cBadPeople cBadCoin) : FnOk P w K mg base CX0 2 f fd ps_l_serves (sp_l_serves K) := by
  obtain ⟨f_l_up, fd_l_up, F_l_up, m_l_up, b_l_up⟩ := T.d_l_up
  have G_l_up : FnOk P w K mg base CX0 1 f_l_up fd_l_up ps_l_up (sp_l_up K) := ok_l_up F_l_up T
  refine F.ok (k := 1) sc_l_serves (fun vs H Q E h => len_l_serves h) (fun cdv A outer s H vs Q E hr h => ?_)
  refine ⟨_, (pss_cons (ps_set (i := 2) sc_l_serves.nd rfl (Or.inl rfl) pe_int)
      (pss_cons (ps_for PassesOwn.never rfl (pi_list (pe_callB cr_sortedE (by rfl) T.n_sorted (by decide +kernel) (pa_cons (pe_callTy call_list_of (by rfl) T.n_list (by decide +kernel) (pa_cons (pv 0) pa_nil)) pa_nil))) (pg_name (i := 3) sc_l_serves.nd rfl (Or.inl rfl))
      (pss_cons (ps_set (i := 2) sc_l_serves.nd rfl (Or.inl rfl) (pe_op op_add (pv 2) (pv 3)))
      (pss_one (ps_if (pt_cmpR op_gt (pv 3) (pe_call G_l_up (hr.mono (by decide)) (by rfl) m_l_up F_l_up.kp b_l_up .nil pass0 (pa_cons (pv 2) (pa_cons (pv 1) pa_nil))) (nomark _)) (pss_one (ps_ret pe_bl)) pss_nil))))
      (pss_one (ps_ret pe_bl)))), ?_⟩
  obtain ⟨a, ns, p, rfl, ha, p0, p1, k⟩ := h
  simp only [tSeq, tAsg, tDrop, tRet, tRetN, tIfS, tNext, tTest, tB, tNot, tAnd, tOr, tChain, tIf, tAndV, tOrV, tNotV, tOp, tUn, tCB, tCons, tNil, tVar, tC, tCall, tCallS, gName, rI, rI0, rU, rEq, rNe, tTup, tLst, gSub, rSetL, rIxL, rIxT, L2.start, List.map_cons, List.map_nil, List.length_cons, List.length_nil, Nat.reduceAdd, Nat.reduceSub, List.replicate_succ, List.replicate_zero, List.getElem?_cons_zero, List.getElem?_cons_succ, List.set_cons_zero, List.set_cons_succ, Option.some.injEq, exists_eq_left', exists_eq_left, exists_and_left, V.int.injEq, V.bl.injEq, V.ref.injEq, V.str.injEq, List.cons.injEq, and_true, true_and, List.nil_append, List.cons_append, List.append_nil, reduceCtorEq, false_and, exists_false, or_false, false_or, and_false, Int.reduceNeg, decide_eq_true_eq, Bool.not_eq_true', decide_eq_false_iff_not, and_assoc, tYes, ↓reduceIte, wipe, Bool.false_eq_true, Bool.true_eq_false, cxOf, false_implies, true_implies, implies_true, forall_const]
  refine ⟨_, rfl, a, rfl, ns.map V.int, ha.sq, fun l hl => ⟨l, ns, rfl, .inl (SqL.of upd_same), fun ms b h1 h2 hb => ⟨b, rfl, ⟨_, SqL.of upd_same⟩, ?_⟩⟩⟩
  have s := (Same.new (o := HO.lst (ns.map V.int)) hl).trans (Same.new (o := HO.lst (ms.map V.int)) hb)
  have eb : upd (upd H l (HO.lst (ns.map V.int))) b (HO.lst (ms.map V.int)) b = some (HO.lst (ms.map V.int)) := upd_same
  generalize upd (upd H l (HO.lst (ns.map V.int))) b (HO.lst (ms.map V.int)) = H2 at s eb ⊢
  refine for_list (K := K) (a := b) (xs := ms.map V.int) (fun i z h' => ∃ v, z = [some (.ref a), some (.int p), some (.int (ms.take i).sum), v] ∧ Srv p 0 (ms.take i) ∧ h' = H2)
    ⟨none, rfl, True.intro, rfl⟩ (fun i z h' _ ⟨_, _, _, e⟩ => e ▸ SqL.of eb) ?_ ?_
  · rintro i x z h' hi ⟨v, rfl, sv, rfl⟩
    obtain ⟨c, hc, rfl⟩ := nat_map hi
    have tk : ms.take (i + 1) = ms.take i ++ [c] := by rw [List.take_add_one, hc]; rfl
    simp only [tSeq, tAsg, tDrop, tRet, tRetN, tIfS, tNext, tTest, tB, tNot, tAnd, tOr, tChain, tIf, tAndV, tOrV, tNotV, tOp, tUn, tCB, tCons, tNil, tVar, tC, tCall, tCallS, gName, rI, rI0, rU, rEq, rNe, tTup, tLst, gSub, rSetL, rIxL, rIxT, L2.start, List.map_cons, List.map_nil, List.length_cons, List.length_nil, Nat.reduceAdd, Nat.reduceSub, List.replicate_succ, List.replicate_zero, List.getElem?_cons_zero, List.getElem?_cons_succ, List.set_cons_zero, List.set_cons_succ, Option.some.injEq, exists_eq_left', exists_eq_left, exists_and_left, V.int.injEq, V.bl.injEq, V.ref.injEq, V.str.injEq, List.cons.injEq, and_true, true_and, List.nil_append, List.cons_append, List.append_nil, reduceCtorEq, false_and, exists_false, or_false, false_or, and_false, Int.reduceNeg, decide_eq_true_eq, Bool.not_eq_true', decide_eq_false_iff_not, and_assoc, tYes, ↓reduceIte, wipe, Bool.false_eq_true, Bool.true_eq_false, cxOf, false_implies, true_implies, implies_true, forall_const, sp_l_up]
    refine ⟨p0, p1, ?_⟩
    by_cases t : c ≤ room p (ms.take i).sum
    · rw [if_neg (srv_up p0 p1 t)]
      exact ⟨by rw [L2.sum_take hc], by rw [tk]; exact srv_snoc.mpr ⟨sv, by rw [Int.zero_add]; exact t⟩⟩
    · rw [if_pos (srv_up2 p0 p1 (by omega))]
      refine (k ms _ s h1 h2).2 fun z => t ?_
      have y := srv_take (i := i + 1) z
      rw [tk] at y
      have w := (srv_snoc.mp y).2
      rwa [Int.zero_add] at w
  · rintro z h' ⟨v, rfl, sv, rfl⟩
    rw [List.length_map, List.take_length] at sv
    exact (k ms _ s h1 h2).1 sv
theorem shaped_tupI (ns : List Int) : SeqAt.shaped (.tuple (ns.map PyData.int)) = true := by
  have d1 := PySem.W.depthAll_ints ns
  have d2 : PyData.depth (.tuple (ns.map PyData.int)) ≤ 64 := by simp only [PyData.depth]; omega
  show (PyData.canLay0 (.tuple (ns.map PyData.int)) && decide (PyData.depth (.tuple (ns.map PyData.int)) ≤ 64)) = true
  rw [Bool.and_eq_true]
  exact ⟨by simp only [PyData.canLay0]; exact PySem.W.canLayAll0_ints ns, decide_eq_true d2⟩
theorem eqvAll_dec : ∀ ns ms : List Int, PyData.eqvAll (ns.map PyData.int) (ms.map PyData.int) = decide (ns = ms)
  | [], [] => by simp [PyData.eqvAll]
  | [], _ :: _ => by simp [PyData.eqvAll]
  | _ :: _, [] => by simp [PyData.eqvAll]
  | n :: ns, m :: ms => by
    simp only [List.map_cons, PyData.eqvAll, PyData.eqv, eqvAll_dec ns ms]
    by_cases e : n = m <;> simp [e]
/-- two tuples of numbers -/
theorem eq_tupI {H : Hp} {a b : Addr} {ns ms : List Int} {Q : VK} (ha : H a = some (.tup (ns.map V.int))) (hb : H b = some (.tup (ms.map V.int))) (q : Q (.bl (decide (ns = ms))) H) : rEqD K (.ref a) (.ref b) H Q := by
  refine ⟨_, _, .tup (SqT.of ha) (dp_ints ns), .tup (SqT.of hb) (dp_ints ms), shaped_tupI ns, shaped_tupI ms, ?_⟩
  rw [show PyData.eqv (.tuple (ns.map PyData.int)) (.tuple (ms.map PyData.int)) = decide (ns = ms) by simp only [PyData.eqv]; exact eqvAll_dec ns ms]
  exact q
theorem ne_tupI {H : Hp} {a b : Addr} {ns ms : List Int} {Q : VK} (ha : H a = some (.tup (ns.map V.int))) (hb : H b = some (.tup (ms.map V.int))) (q : Q (.bl (!decide (ns = ms))) H) : rNeD K (.ref a) (.ref b) H Q := by
  refine ⟨_, _, .tup (SqT.of ha) (dp_ints ns), .tup (SqT.of hb) (dp_ints ms), shaped_tupI ns, shaped_tupI ms, ?_⟩
  rw [show PyData.eqv (.tuple (ns.map PyData.int)) (.tuple (ms.map PyData.int)) = decide (ns = ms) by simp only [PyData.eqv]; exact eqvAll_dec ns ms]
  exact q
theorem eq_listI {H : Hp} {a b : Addr} {ns ms : List Int} {Q : VK} (ha : SqL K H a (ns.map V.int)) (hb : SqL K H b (ms.map V.int)) (q : Q (.bl (decide (ns = ms))) H) : rEqD K (.ref a) (.ref b) H Q := by
  refine ⟨_, _, .lst ha (dp_ints ns), .lst hb (dp_ints ms), PySem.W.shaped_ints ns, PySem.W.shaped_ints ms, ?_⟩
  rw [show PyData.eqv (.list (ns.map PyData.int)) (.list (ms.map PyData.int)) = decide (ns = ms) by simp only [PyData.eqv]; exact eqvAll_dec ns ms]
  exact q
theorem ne_listI {H : Hp} {a b : Addr} {ns ms : List Int} {Q : VK} (ha : SqL K H a (ns.map V.int)) (hb : SqL K H b (ms.map V.int)) (q : Q (.bl (!decide (ns = ms))) H) : rNeD K (.ref a) (.ref b) H Q := by
  refine ⟨_, _, .lst ha (dp_ints ns), .lst hb (dp_ints ms), PySem.W.shaped_ints ns, PySem.W.shaped_ints ms, ?_⟩
  rw [show PyData.eqv (.list (ns.map PyData.int)) (.list (ms.map PyData.int)) = decide (ns = ms) by simp only [PyData.eqv]; exact eqvAll_dec ns ms]
  exact q
theorem cut_to (ns : List Int) (j : Nat) : cutV (ns.map V.int) none (some (j : Int)) = (ns.take j).map V.int := by
  unfold cutV
  rw [HT.sIx_none, HT.sIx_nat, List.length_map, List.drop_zero, Nat.sub_zero, ← List.map_take]
  congr 1
  rw [Nat.min_def]
  split
  · rfl
  · rw [List.take_length, List.take_of_length_le (by omega)]
theorem cut_from (ns : List Int) (j : Nat) : cutV (ns.map V.int) (some ((j : Int) + 1)) none = (ns.drop (j + 1)).map V.int := by
  unfold cutV
  have e : (j : Int) + 1 = ((j + 1 : Nat) : Int) := by omega
  rw [e, HT.sIx_none, HT.sIx_nat, List.length_map, ← List.map_drop, ← List.map_take]
  congr 1
  rw [Nat.min_def]
  split
  · rw [List.take_of_length_le (by rw [List.length_drop]; omega)]
  · rw [List.drop_length, List.drop_eq_nil_of_le (by omega), List.take_nil]
theorem mem_cut {ns : List Int} {j m : Nat} {x : Int} (h : x ∈ ns.take j ++ ns.drop m) : x ∈ ns := by
  rcases List.mem_append.mp h with h | h
  · exact List.mem_of_mem_take h
  · exact List.mem_of_mem_drop h
theorem handOffq {H : Hp} {h q p : Addr} (x : HandAt H h q) (hp : H p = none) : p ≠ q := by
  obtain ⟨cs, i, r, t, _, h2, _⟩ := x.ex
  exact fun z => by rw [z, h2] at hp; cases hp
theorem handPut {H : Hp} {h q p : Addr} {o : HO} (x : HandAt H h q) (n1 : p ≠ h) (n2 : p ≠ q) : HandAt (upd H p o) h q := by
  obtain ⟨cs, i, r, t, h1, h2, m⟩ := x.ex
  exact ⟨cs, i, r, t, by rw [upd_ne (Ne.symm n1)]; exact h1, by rw [upd_ne (Ne.symm n2)]; exact h2, m⟩
/-- what stood stands, but for the hand, when a new thing changes -/
theorem butAt {h D : Addr} {H H' : Hp} {o : HO} (b : But h H H') (hD : H D = none) : But h H (upd H' D o) := fun c u e n => by
  rw [upd_ne (ne_of_none e hD)]
  exact b c u e n
/-- a list of coins that a def hands over, with the hand as a hand -/
def Gives (h q : Addr) (n : Nat) (H : Hp) (Q : VK) : Prop := ∀ (H' : Hp) (b : Addr) (ms : List Int), HandAt H' h q → But h H H' → H' b = some (.lst (ms.map V.int)) → b ≠ h → ms.length ≤ n → (∀ m, m ∈ ms → 1 ≤ m ∧ m ≤ 1000000000) → Q (.ref b) H'
def sp_l_robbed (_ : PySem.W.Frag) : Sp := fun vs H Q _ => ∃ (h q a : Addr) (ns : List Int), vs = [.ref h, .ref a] ∧ HandAt H h q ∧ H a = some (.lst (ns.map V.int)) ∧ a ≠ h ∧ ns.length ≤ 12 ∧ (∀ m, m ∈ ns → 1 ≤ m ∧ m ≤ 1000000000) ∧ Gives h q 12 H Q
theorem len_l_robbed {vs H Q E} (h : sp_l_robbed K vs H Q E) : vs.length = 2 := by
  obtain ⟨_, _, _, _, rfl, _⟩ := h; rfl
theorem ok_l_robbed {f : Addr} {fd : FuncData} (F : Fun K "_law_robbed" "_law_robbed" s_l_robbed f fd) (T : Txt K mg cBadPool cBadPeople cBadCoin) : FnOk P w K mg base CX0 3 f fd ps_l_robbed (sp_l_robbed K) := by
  obtain ⟨f_l_draw, fd_l_draw, F_l_draw, m_l_draw, b_l_draw⟩ := T.d_l_draw
  have G_l_draw : FnOk P w K mg base CX0 2 f_l_draw fd_l_draw ps_l_draw (sp_l_draw K) := ok_l_draw F_l_draw T
  refine F.ok (k := 2) sc_l_robbed (fun vs H Q E h => len_l_robbed h) (fun cdv A outer s H vs Q E hr h => ?_)
  refine ⟨_, (pss_cons (ps_if (pt_cmpR (op_eqD hr.units) (pv 1) (pe_lst pa_nil) (nomark _)) (pss_one (ps_ret (pv 1))) pss_nil)
      (pss_cons (ps_set (i := 2) sc_l_robbed.nd rfl (Or.inl rfl) (pe_call G_l_draw (hr.mono (by decide)) (by rfl) m_l_draw F_l_draw.kp b_l_draw .nil pass0 (pa_cons (pv 0) (pa_cons (pe_callB call_len_seq (by rfl) T.n_len (by decide +kernel) (pa_cons (pv 1) pa_nil)) pa_nil))))
      (pss_one (ps_ret (pe_op op_cat (pe_slice sl_list (pv 1) po_none (po_some (pv 2))) (pe_slice sl_list (pv 1) (po_some (pe_op op_add (pv 2) pe_int)) po_none)))))), ?_⟩
  obtain ⟨h, q, a, ns, rfl, hh, ha, nh, hn, hb, k⟩ := h
  simp only [tSeq, tAsg, tDrop, tRet, tRetN, tIfS, tNext, tTest, tB, tNot, tAnd, tOr, tChain, tIf, tAndV, tOrV, tNotV, tOp, tUn, tCB, tCons, tNil, tVar, tC, tCall, tCallS, gName, rI, rI0, rU, rEq, rNe, tTup, tLst, gSub, rSetL, rIxL, rIxT, L2.start, List.map_cons, List.map_nil, List.length_cons, List.length_nil, Nat.reduceAdd, Nat.reduceSub, List.replicate_succ, List.replicate_zero, List.getElem?_cons_zero, List.getElem?_cons_succ, List.set_cons_zero, List.set_cons_succ, Option.some.injEq, exists_eq_left', exists_eq_left, exists_and_left, V.int.injEq, V.bl.injEq, V.ref.injEq, V.str.injEq, List.cons.injEq, and_true, true_and, List.nil_append, List.cons_append, List.append_nil, reduceCtorEq, false_and, exists_false, or_false, false_or, and_false, Int.reduceNeg, decide_eq_true_eq, Bool.not_eq_true', decide_eq_false_iff_not, and_assoc, tYes, ↓reduceIte, wipe, Bool.false_eq_true, Bool.true_eq_false, cxOf, false_implies, true_implies, implies_true, forall_const, spDraw]
  refine ⟨Nat.zero_le _, fun p hp => eq_listI (ms := []) (SqL.of ((Same.new hp) _ _ ha)) (SqL.of upd_same) ⟨_, rfl, ?_⟩⟩
  have sp := Same.new (o := HO.lst []) hp
  by_cases e : ns = []
  · rw [decide_eq_true e, if_pos rfl]
    exact k _ a ns (hh.same sp) (But.of sp) (sp _ _ ha) nh hn hb
  · rw [decide_eq_false e, if_neg (fun z => by cases z)]
    have l0 : 0 < ns.length := List.length_pos_iff.mpr e
    refine ⟨_, .inl (SqL.of (sp _ _ ha)), q, hh.same sp, by rw [List.length_map]; omega, by rw [List.length_map]; omega, fun d H1 d0 d1 hh1 b1 => ?_⟩
    have ha1 := b1 _ _ (sp _ _ ha) nh
    obtain ⟨j, rfl⟩ := Int.eq_ofNat_of_zero_le d0
    rw [List.length_map] at d1
    refine ⟨_, rfl, _, rfl, _, rfl, a, _, rfl, SqL.of ha1, fun p1 hp1 => ?_⟩
    have s1 := Same.new (o := HO.lst (cutV (ns.map V.int) none (some (j : Int)))) hp1
    refine ⟨_, rfl, _, rfl, _, _, rfl, rfl, _, rfl, a, _, rfl, SqL.of (s1 _ _ ha1), fun p2 hp2 => ?_⟩
    have s2 := Same.new (o := HO.lst (cutV (ns.map V.int) (some ((j : Int) + 1)) none)) hp2
    refine ⟨p1, p2, _, _, rfl, rfl, s2 _ _ upd_same, upd_same, ?_, fun p3 hp3 => ?_⟩
    · rw [cut_to, cut_from, List.length_map, List.length_map, List.length_take, List.length_drop]
      exact Nat.le_of_lt (Nat.lt_of_le_of_lt (show _ ≤ 100 by omega) (by decide))
    · have s3 := Same.new (o := HO.lst (cutV (ns.map V.int) none (some (j : Int)) ++ cutV (ns.map V.int) (some ((j : Int) + 1)) none)) hp3
      have s13 := s1.trans (s2.trans s3)
      have hh3 := hh1.same s13
      refine k _ p3 (ns.take j ++ ns.drop (j + 1)) hh3 ((((But.of sp).trans b1)).trans (But.of s13)) ?_ ((hh1.same (s1.trans s2)).off hp3) ?_ fun m hm => hb m (mem_cut hm)
      · rw [upd_same, cut_to, cut_from, List.map_append]
      · rw [List.length_append, List.length_take, List.length_drop]
        omega
def sp_l_pool (_ : PySem.W.Frag) : Sp := fun vs H Q _ => ∃ (h q : Addr) (p M : Int), vs = [.ref h, .int p, .int M] ∧ HandAt H h q ∧ 2 ≤ p ∧ p ≤ 5 ∧ 0 ≤ M ∧ M ≤ 12 ∧ Gives h q 12 H Q
theorem len_l_pool {vs H Q E} (h : sp_l_pool K vs H Q E) : vs.length = 3 := by
  obtain ⟨_, _, _, _, rfl, _⟩ := h; rfl
theorem ok_l_pool {f : Addr} {fd : FuncData} (F : Fun K "_law_pool" "_law_pool" s_l_pool f fd) (T : Txt K mg cBadPool cBadPeople cBadCoin) : FnOk P w K mg base CX0 3 f fd ps_l_pool (sp_l_pool K) := by
  obtain ⟨f_l_draw, fd_l_draw, F_l_draw, m_l_draw, b_l_draw⟩ := T.d_l_draw
  have G_l_draw : FnOk P w K mg base CX0 2 f_l_draw fd_l_draw ps_l_draw (sp_l_draw K) := ok_l_draw F_l_draw T
  obtain ⟨f_l_next, fd_l_next, F_l_next, m_l_next, b_l_next⟩ := T.d_l_next
  have G_l_next : FnOk P w K mg base CX0 1 f_l_next fd_l_next ps_l_next (sp_l_next K) := ok_l_next F_l_next T
  refine F.ok (k := 2) sc_l_pool (fun vs H Q E h => len_l_pool h) (fun cdv A outer s H vs Q E hr h => ?_)
  refine ⟨_, (pss_cons (ps_set (i := 3) sc_l_pool.nd rfl (Or.inl rfl) (pe_call G_l_draw (hr.mono (by decide)) (by rfl) m_l_draw F_l_draw.kp b_l_draw .nil pass0 (pa_cons (pv 0) (pa_cons (pe_op op_add (pv 2) pe_int) pa_nil))))
      (pss_cons (ps_set (i := 4) sc_l_pool.nd rfl (Or.inl rfl) (pe_call G_l_draw (hr.mono (by decide)) (by rfl) m_l_draw F_l_draw.kp b_l_draw .nil pass0 (pa_cons (pv 0) (pa_cons pe_int pa_nil))))
      (pss_cons (ps_set (i := 5) sc_l_pool.nd rfl (Or.inl rfl) (pe_lst pa_nil))
      (pss_cons (ps_for PassesOwn.never rfl (pi_range1 (by rfl) T.n_range (pa_cons (pv 3) pa_nil)) (pg_name (i := 6) sc_l_pool.nd rfl (Or.inl rfl))
      (pss_cons (ps_set (i := 7) sc_l_pool.nd rfl (Or.inl rfl) (pe_call G_l_next (hr.mono (by decide)) (by rfl) m_l_next F_l_next.kp b_l_next .nil pass0 (pa_cons (pe_callB (cr_sumE rfl) (by rfl) T.n_sum (by decide +kernel) (pa_cons (pv 5) pa_nil)) (pa_cons (pv 1) pa_nil))))
      (pss_cons (ps_if (PW.pt (pw_and (pt_cmpR op_ne (pv 4) pe_int (nomark _)) (pw_and1 (pt_cmpR op_gt (pe_call G_l_draw (hr.mono (by decide)) (by rfl) m_l_draw F_l_draw.kp b_l_draw .nil pass0 (pa_cons (pv 0) (pa_cons pe_int pa_nil))) pe_int (nomark _))))) (pss_one (ps_set (i := 7) sc_l_pool.nd rfl (Or.inl rfl) (pe_op op_add pe_int (pe_call G_l_draw (hr.mono (by decide)) (by rfl) m_l_draw F_l_draw.kp b_l_draw .nil pass0 (pa_cons (pv 0) (pa_cons (pv 7) pa_nil)))))) pss_nil)
      (pss_one (ps_expr (pe_bm PySem.F.plainAttrs_list PySem.F.slot_list_insert PySem.F.type_list_insert mt_insert (pv 5) (pa_cons (pe_call G_l_draw (hr.mono (by decide)) (by rfl) m_l_draw F_l_draw.kp b_l_draw .nil pass0 (pa_cons (pv 0) (pa_cons (pe_op op_add (pe_callB call_len_seq (by rfl) T.n_len (by decide +kernel) (pa_cons (pv 5) pa_nil)) pe_int) pa_nil))) (pa_cons (pv 7) pa_nil))))))))
      (pss_cons (ps_if (pt_cmpR (op_neD hr.units) (pv 5) (pe_lst pa_nil) (nomark _)) (pss_cons (ps_set (i := 8) sc_l_pool.nd rfl (Or.inl rfl) (pe_call G_l_draw (hr.mono (by decide)) (by rfl) m_l_draw F_l_draw.kp b_l_draw .nil pass0 (pa_cons (pv 0) (pa_cons (pe_callB call_len_seq (by rfl) T.n_len (by decide +kernel) (pa_cons (pv 5) pa_nil)) pa_nil))))
      (pss_cons (ps_if (pt_cmpR op_eq (pv 4) pe_int (nomark _)) (pss_one (ps_set (i := 5) sc_l_pool.nd rfl (Or.inl rfl) (pe_op op_cat (pe_slice sl_list (pv 5) po_none (po_some (pv 8))) (pe_slice sl_list (pv 5) (po_some (pe_op op_add (pv 8) pe_int)) po_none)))) pss_nil)
      (pss_one (ps_if (pt_cmpR op_ge (pv 4) pe_int (nomark _)) (pss_one (ps_asg (pe_op op_add (pe_op op_add (pe_call G_l_next (hr.mono (by decide)) (by rfl) m_l_next F_l_next.kp b_l_next .nil pass0 (pa_cons (pe_callB (cr_sumE rfl) (by rfl) T.n_sum (by decide +kernel) (pa_cons (pv 5) pa_nil)) (pa_cons (pv 1) pa_nil))) pe_int) (pe_call G_l_draw (hr.mono (by decide)) (by rfl) m_l_draw F_l_draw.kp b_l_draw .nil pass0 (pa_cons (pv 0) (pa_cons pe_int pa_nil)))) (pg_sub (pv 5) (pv 8) set_list))) pss_nil)))) pss_nil)
      (pss_cons (ps_if (pt_cmpR op_eq (pv 4) pe_int (nomark _)) (pss_cons (ps_set (i := 9) sc_l_pool.nd rfl (Or.inr rfl) (pe_op op_add pe_int (pe_call G_l_draw (hr.mono (by decide)) (by rfl) m_l_draw F_l_draw.kp b_l_draw .nil pass0 (pa_cons (pv 0) (pa_cons (pe_op op_pow pe_int pe_int) pa_nil)))))
      (pss_one (ps_setLc (i := 5) (own := [("_law_coin", 7)]) (g := gName 7) (tt := tYes) rfl sc_l_pool.nd rfl rfl (sw_true rfl rfl rfl (by decide +kernel)) (pi_list (pv 5)) (blkOk_by (N := nm_l_pool) (sc := defScope s_l_pool) (by decide +kernel)) (fun _ _ _ _ _ => (pg_name (i := 7) sc_l_pool.nd rfl (Or.inl rfl))) (fun _ _ _ _ _ => pts_nil) (fun _ _ _ _ _ => (pe_op op_mul (pv 7) (pv 9)))))) pss_nil)
      (pss_one (ps_ret (pv 5))))))))), ?_⟩
  obtain ⟨h, q, p, M, rfl, hh, p0, p5, M0, M12, k⟩ := h
  simp only [tSeq, tAsg, tDrop, tRet, tRetN, tIfS, tNext, tTest, tB, tNot, tAnd, tOr, tChain, tIf, tAndV, tOrV, tNotV, tOp, tUn, tCB, tCons, tNil, tVar, tC, tCall, tCallS, gName, rI, rI0, rU, rEq, rNe, tTup, tLst, gSub, rSetL, rIxL, rIxT, L2.start, List.map_cons, List.map_nil, List.length_cons, List.length_nil, Nat.reduceAdd, Nat.reduceSub, List.replicate_succ, List.replicate_zero, List.getElem?_cons_zero, List.getElem?_cons_succ, List.set_cons_zero, List.set_cons_succ, Option.some.injEq, exists_eq_left', exists_eq_left, exists_and_left, V.int.injEq, V.bl.injEq, V.ref.injEq, V.str.injEq, List.cons.injEq, and_true, true_and, List.nil_append, List.cons_append, List.append_nil, reduceCtorEq, false_and, exists_false, or_false, false_or, and_false, Int.reduceNeg, decide_eq_true_eq, Bool.not_eq_true', decide_eq_false_iff_not, and_assoc, tYes, ↓reduceIte, wipe, Bool.false_eq_true, Bool.true_eq_false, cxOf, false_implies, true_implies, implies_true, forall_const, spDraw]
  refine ⟨q, hh, by omega, by omega, fun d H1 d0 d1 hh1 b1 => ⟨q, hh1, by decide, by decide, fun t H2 t0 t1 hh2 b2 => ?_⟩⟩
  refine ⟨Nat.zero_le _, fun D hD => ?_⟩
  have n1 := hh2.off hD
  have n2 := handOffq hh2 hD
  refine ⟨_, rfl, d, rfl, by omega, by omega, for_range (lo := 0) (n := d.toNat) (fun i z H' => ∃ (ms : List Int) (v6 v7 v8 v9 : Option V), z = [some (.ref h), some (.int p), some (.int M), some (.int d), some (.int t), some (.ref D), v6, v7, v8, v9] ∧ HandAt H' h q ∧ But h H2 H' ∧ H' D = some (.lst (ms.map V.int)) ∧ ms.length = i ∧ ms.sum ≤ 2 ^ i - 1 ∧ ∀ m, m ∈ ms → 1 ≤ m ∧ m ≤ 4100)
    ⟨[], none, none, none, none, rfl, hh2.same (Same.new hD), But.new hD, upd_same, rfl, by decide, fun m hm => absurd hm List.not_mem_nil⟩ ?_ ?_⟩
  · rintro i z H' hi ⟨ms, v6, v7, v8, v9, rfl, hd, bt, eD, ln, sm, mb⟩
    have s0 : 0 ≤ ms.sum := by
      have f := (filter_sum (r := -1) (l := ms) fun x hx => by have := (mb x hx).1; omega)
      omega
    have i2 : (2 : Int) ^ i ≤ 2 ^ 11 := pow2_le (by omega)
    have i3 : (2 : Int) ^ 11 = 2048 := by decide
    have c1 := room_pos p0 s0
    have c2 : room p ms.sum ≤ ms.sum + 1 := by
      have := Int.ediv_le_self (p - 1) s0
      unfold room
      omega
    have e2 : (2 : Int) ^ (i + 1) = 2 * 2 ^ i := by rw [Int.pow_succ, Int.mul_comm]
    simp only [tSeq, tAsg, tDrop, tRet, tRetN, tIfS, tNext, tTest, tB, tNot, tAnd, tOr, tChain, tIf, tAndV, tOrV, tNotV, tOp, tUn, tCB, tCons, tNil, tVar, tC, tCall, tCallS, gName, rI, rI0, rU, rEq, rNe, tTup, tLst, gSub, rSetL, rIxL, rIxT, L2.start, List.map_cons, List.map_nil, List.length_cons, List.length_nil, Nat.reduceAdd, Nat.reduceSub, List.replicate_succ, List.replicate_zero, List.getElem?_cons_zero, List.getElem?_cons_succ, List.set_cons_zero, List.set_cons_succ, Option.some.injEq, exists_eq_left', exists_eq_left, exists_and_left, V.int.injEq, V.bl.injEq, V.ref.injEq, V.str.injEq, List.cons.injEq, and_true, true_and, List.nil_append, List.cons_append, List.append_nil, reduceCtorEq, false_and, exists_false, or_false, false_or, and_false, Int.reduceNeg, decide_eq_true_eq, Bool.not_eq_true', decide_eq_false_iff_not, and_assoc, tYes, ↓reduceIte, wipe, Bool.false_eq_true, Bool.true_eq_false, cxOf, false_implies, true_implies, implies_true, forall_const, rSumE, sp_l_next]
    refine ⟨ms, .inl (SqL.of eD), p0, p5, rfl, ?_⟩
    generalize room p ms.sum = c at c1 c2 ⊢
    simp only [tSeq, tAsg, tDrop, tRet, tRetN, tIfS, tNext, tTest, tB, tNot, tAnd, tOr, tChain, tIf, tAndV, tOrV, tNotV, tOp, tUn, tCB, tCons, tNil, tVar, tC, tCall, tCallS, gName, rI, rI0, rU, rEq, rNe, tTup, tLst, gSub, rSetL, rIxL, rIxT, L2.start, List.map_cons, List.map_nil, List.length_cons, List.length_nil, Nat.reduceAdd, Nat.reduceSub, List.replicate_succ, List.replicate_zero, List.getElem?_cons_zero, List.getElem?_cons_succ, List.set_cons_zero, List.set_cons_succ, Option.some.injEq, exists_eq_left', exists_eq_left, exists_and_left, V.int.injEq, V.bl.injEq, V.ref.injEq, V.str.injEq, List.cons.injEq, and_true, true_and, List.nil_append, List.cons_append, List.append_nil, reduceCtorEq, false_and, exists_false, or_false, false_or, and_false, Int.reduceNeg, decide_eq_true_eq, Bool.not_eq_true', decide_eq_false_iff_not, and_assoc, tYes, ↓reduceIte, wipe, Bool.false_eq_true, Bool.true_eq_false, cxOf, false_implies, true_implies, implies_true, forall_const, tBM, spDraw]
    have e63 : (2 : Int) ^ 63 = 9223372036854775808 := by decide
    have ins : ∀ (Hx : Hp) (g : Int), 1 ≤ g → g ≤ ms.sum + 1 → HandAt Hx h q → But h H2 Hx → Hx D = some (.lst (ms.map V.int)) →
        tyV K "list" (V.ref D) Hx ∧ ∃ x, (SqL K Hx D x ∨ SqT K Hx D x) ∧ ∃ x_1, HandAt Hx h x_1 ∧ 0 < (x.length : Int) + 1 ∧ (x.length : Int) + 1 < 9223372036854775808 ∧ ∀ (e : Int) (Hy : Hp), 0 ≤ e → e < (x.length : Int) + 1 → HandAt Hy h x_1 → But h Hx Hy →
          ∃ x, Hy D = some (.lst x) ∧ x.length < sizeLine ∧ 0 ≤ e ∧ e < 2 ^ 63 ∧ HandAt (upd Hy D (.lst (x.take e.toNat ++ [V.int g] ++ x.drop e.toNat))) h q ∧ But h H2 (upd Hy D (.lst (x.take e.toNat ++ [V.int g] ++ x.drop e.toNat))) ∧
            ∃ x_2 : List Int, upd Hy D (.lst (x.take e.toNat ++ [V.int g] ++ x.drop e.toNat)) D = some (.lst (x_2.map V.int)) ∧ x_2.length = i + 1 ∧ x_2.sum ≤ 2 ^ (i + 1) - 1 ∧ ∀ m : Int, m ∈ x_2 → 1 ≤ m ∧ m ≤ 4100 := by
      intro Hx g g1 g2 hx bx ex
      refine ⟨.inl ⟨rfl, _, SqL.of ex⟩, _, .inl (SqL.of ex), q, hx, by omega, by rw [List.length_map]; omega, fun e Hy e0 e1 hy by' => ?_⟩
      rw [List.length_map] at e1
      refine ⟨_, by' _ _ ex n1, by rw [List.length_map]; exact small1000 (by omega), e0, by omega, handPut hy n1 n2, butAt (bx.trans by') hD, ms.take e.toNat ++ [g] ++ ms.drop e.toNat, ?_, ?_, ?_, fun m hm => ?_⟩
      · rw [upd_same, List.map_append, List.map_append, List.map_take, List.map_drop]
        rfl
      · rw [List.length_append, List.length_append, List.length_take, List.length_drop]
        show _ + 1 + _ = _
        omega
      · have es : (ms.take e.toNat).sum + (ms.drop e.toNat).sum = ms.sum := by rw [← List.sum_append, List.take_append_drop]
        rw [List.sum_append, List.sum_append, e2]
        simp
        omega
      · rcases List.mem_append.mp hm with hm | hm
        · rcases List.mem_append.mp hm with hm | hm
          · exact mb m (List.mem_of_mem_take hm)
          · rw [List.mem_singleton.mp hm]
            exact ⟨by omega, by omega⟩
        · exact mb m (List.mem_of_mem_drop hm)
    split
    · refine ⟨q, hd, by decide, by decide, fun y H3 y0 y1 hd3 b3 => ?_⟩
      have eD3 := b3 _ _ eD n1
      split
      · exact ⟨q, hd3, by omega, by omega, fun g H4 g0 g1 hd4 b4 => ins H4 (1 + g) (by omega) (by omega) hd4 ((bt.trans b3).trans b4) (b4 _ _ eD3 n1)⟩
      · exact ins H3 c (by omega) (by omega) hd3 (bt.trans b3) eD3
    · exact ins H' c (by omega) (by omega) hd bt eD
  · rintro z H' ⟨ms, v6, v7, v8, v9, rfl, hd, bt, eD, ln, sm, mb⟩
    have e5 : (10 : Int) ^ Int.toNat 5 = 100000 := by decide
    simp only [tSeq, tAsg, tDrop, tRet, tRetN, tIfS, tNext, tTest, tB, tNot, tAnd, tOr, tChain, tIf, tAndV, tOrV, tNotV, tOp, tUn, tCB, tCons, tNil, tVar, tC, tCall, tCallS, gName, rI, rI0, rU, rEq, rNe, tTup, tLst, gSub, rSetL, rIxL, rIxT, L2.start, List.map_cons, List.map_nil, List.length_cons, List.length_nil, Nat.reduceAdd, Nat.reduceSub, List.replicate_succ, List.replicate_zero, List.getElem?_cons_zero, List.getElem?_cons_succ, List.set_cons_zero, List.set_cons_succ, Option.some.injEq, exists_eq_left', exists_eq_left, exists_and_left, V.int.injEq, V.bl.injEq, V.ref.injEq, V.str.injEq, List.cons.injEq, and_true, true_and, List.nil_append, List.cons_append, List.append_nil, reduceCtorEq, false_and, exists_false, or_false, false_or, and_false, Int.reduceNeg, decide_eq_true_eq, Bool.not_eq_true', decide_eq_false_iff_not, and_assoc, tYes, ↓reduceIte, wipe, Bool.false_eq_true, Bool.true_eq_false, cxOf, false_implies, true_implies, implies_true, forall_const, spDraw, e5]
    refine ⟨Nat.zero_le _, fun e he => ne_listI (ms := []) (SqL.of ((Same.new he) _ _ eD)) (SqL.of upd_same) ⟨_, rfl, ?_⟩⟩
    have se := Same.new (o := HO.lst []) he
    have eD1 := se _ _ eD
    have hd1 := hd.same se
    have bt1 : But h H2 _ := bt.trans (But.of se)
    generalize upd H' e (HO.lst []) = H3 at eD1 hd1 bt1 ⊢
    clear se he hd bt eD H'
    have b0 : But h H H3 := (b1.trans b2).trans bt1
    have fD : H D = none := by
      cases z : H D with
      | none => rfl
      | some o =>
        have y := (b1.trans b2) _ _ z n1
        rw [hD] at y
        cases y
    have tms : ∀ (B : Addr) (Hx : Hp) (ls : List Int) (u7 u8 : Option V) (e : Int), Hx B = some (.lst (ls.map V.int)) → HandAt Hx h q → But h H Hx → ls.length ≤ 12 → (∀ m, m ∈ ls → 1 ≤ m ∧ m ≤ 9000) → 0 ≤ e → e < 100000 →
        tLc (iList K (tVar 5)) (gName 7) tYes (tOp (rI CMul fun i j => V.int (i * j)) (tVar 7) (tVar 9)) [7] [some (.ref h), some (.int p), some (.int M), some (.int d), some (.int t), some (.ref B), v6, u7, u8, some (.int (1 + e))] Hx fun x H1 => Q x H1 := by
      intro B Hx ls u7 u8 e eB hx bx ll lb e0 e1
      refine ⟨_, rfl, B, rfl, ⟨_, SqL.of eB⟩, fun D2 hD2 => lc_list (K := K) (a := B) (xs := ls.map V.int) (fun i h' => ∃ ks : List Int, Same Hx h' ∧ h' D2 = some (.lst (ks.map V.int)) ∧ ks.length = i ∧ ∀ m, m ∈ ks → 1 ≤ m ∧ m ≤ 1000000000)
        ⟨[], Same.new hD2, upd_same, rfl, fun m hm => absurd hm List.not_mem_nil⟩ (fun i h' _ ⟨_, s, _⟩ => SqL.of (s _ _ eB)) ?_ ?_⟩
      · rintro i y h' hi ⟨ks, s, eK, kl, kb⟩
        obtain ⟨g, hg, rfl⟩ := nat_map hi
        have gb := lb g (List.mem_of_getElem? hg)
        have il := (List.getElem?_eq_some_iff.mp hg).1
        have m1 : g * (1 + e) ≤ 9000 * 100000 := Int.mul_le_mul gb.2 (by omega) (by omega) (by decide)
        have m0 : 0 < g * (1 + e) := Int.mul_pos (by omega) (by omega)
        simp only [tSeq, tAsg, tDrop, tRet, tRetN, tIfS, tNext, tTest, tB, tNot, tAnd, tOr, tChain, tIf, tAndV, tOrV, tNotV, tOp, tUn, tCB, tCons, tNil, tVar, tC, tCall, tCallS, gName, rI, rI0, rU, rEq, rNe, tTup, tLst, gSub, rSetL, rIxL, rIxT, L2.start, List.map_cons, List.map_nil, List.length_cons, List.length_nil, Nat.reduceAdd, Nat.reduceSub, List.replicate_succ, List.replicate_zero, List.getElem?_cons_zero, List.getElem?_cons_succ, List.set_cons_zero, List.set_cons_succ, Option.some.injEq, exists_eq_left', exists_eq_left, exists_and_left, V.int.injEq, V.bl.injEq, V.ref.injEq, V.str.injEq, List.cons.injEq, and_true, true_and, List.nil_append, List.cons_append, List.append_nil, reduceCtorEq, false_and, exists_false, or_false, false_or, and_false, Int.reduceNeg, decide_eq_true_eq, Bool.not_eq_true', decide_eq_false_iff_not, and_assoc, tYes, ↓reduceIte, wipe, Bool.false_eq_true, Bool.true_eq_false, cxOf, false_implies, true_implies, implies_true, forall_const]
        refine ⟨cml (by omega) (by omega), _, eK, by rw [List.length_map]; exact small1000 (by omega), fun b o z => ?_, ks ++ [g * (1 + e)], ?_, by rw [List.length_append, kl]; rfl, fun m hm => ?_⟩
        · rw [upd_ne (ne_of_none z hD2)]
          exact s b o z
        · rw [upd_same, List.map_append]
          rfl
        · rcases List.mem_append.mp hm with hm | hm
          · exact kb m hm
          · rw [List.mem_singleton.mp hm]
            exact ⟨by omega, by omega⟩
      · rintro h' ⟨ks, s, eK, kl, kb⟩
        exact k h' D2 ks (hx.same s) (bx.trans (But.of s)) eK (hx.off hD2) (by rw [List.length_map] at kl; omega) kb
    have tail : ∀ (B : Addr) (Hx : Hp) (ls : List Int) (u7 u8 : Option V), Hx B = some (.lst (ls.map V.int)) → B ≠ h → HandAt Hx h q → But h H Hx → ls.length ≤ 12 → (∀ m, m ∈ ls → 1 ≤ m ∧ m ≤ 9000) →
        if t = 5 then CPow 10 5 ∧ ∃ x, HandAt Hx h x ∧ (0 : Int) < 100000 ∧ (100000 : Int) < 9223372036854775808 ∧ ∀ (e : Int) (H' : Hp), 0 ≤ e → e < 100000 → HandAt H' h x → But h Hx H' →
          tLc (iList K (tVar 5)) (gName 7) tYes (tOp (rI CMul fun i j => V.int (i * j)) (tVar 7) (tVar 9)) [7] [some (.ref h), some (.int p), some (.int M), some (.int d), some (.int t), some (.ref B), v6, u7, u8, some (.int (1 + e))] H' fun x H1 => Q x H1
        else Q (.ref B) Hx := by
      intro B Hx ls u7 u8 eB nB hx bx ll lb
      split
      · exact ⟨⟨by decide, by decide, by decide⟩, q, hx, by decide, by decide, fun e H' e0 e1 hx' bx' => tms B H' ls u7 u8 e (bx' _ _ eB nB) hx' (bx.trans bx') ll lb e0 e1⟩
      · exact k Hx B ls hx bx eB nB ll fun m hm => ⟨(lb m hm).1, by have := (lb m hm).2; omega⟩
    have mb' : ∀ m, m ∈ ms → 1 ≤ m ∧ m ≤ 9000 := fun m hm => ⟨(mb m hm).1, by have := (mb m hm).2; omega⟩
    have ml : ms.length ≤ 12 := by omega
    by_cases em : ms = []
    · rw [decide_eq_true em, if_neg (fun z => by cases z)]
      exact ⟨rfl, tail D H3 ms v7 v8 eD1 n1 hd1 b0 ml mb'⟩
    · have l0 : 0 < ms.length := List.length_pos_iff.mpr em
      rw [decide_eq_false em]
      refine ⟨_, .inl (SqL.of eD1), q, hd1, by rw [List.length_map]; omega, by rw [List.length_map]; omega, fun x H4 x0 x1 hd4 b4 => ⟨rfl, ?_⟩⟩
      obtain ⟨j, rfl⟩ := Int.eq_ofNat_of_zero_le x0
      rw [List.length_map] at x1
      have eD4 := b4 _ _ eD1 n1
      have b04 := b0.trans b4
      by_cases t3 : t = 3
      · rw [if_pos t3]
        refine ⟨_, rfl, _, rfl, _, rfl, D, _, rfl, SqL.of eD4, fun p1 hp1 => ?_⟩
        have s1 := Same.new (o := HO.lst (cutV (ms.map V.int) none (some (j : Int)))) hp1
        refine ⟨_, rfl, _, rfl, _, _, rfl, rfl, _, rfl, D, _, rfl, SqL.of (s1 _ _ eD4), fun p2 hp2 => ?_⟩
        have s2 := Same.new (o := HO.lst (cutV (ms.map V.int) (some ((j : Int) + 1)) none)) hp2
        refine ⟨p1, p2, _, _, rfl, rfl, s2 _ _ upd_same, upd_same, ?_, fun p3 hp3 => ?_⟩
        · rw [cut_to, cut_from, List.length_map, List.length_map, List.length_take, List.length_drop]
          exact Nat.le_of_lt (Nat.lt_of_le_of_lt (show _ ≤ 100 by omega) (by decide))
        · have s3 := Same.new (o := HO.lst (cutV (ms.map V.int) none (some (j : Int)) ++ cutV (ms.map V.int) (some ((j : Int) + 1)) none)) hp3
          have s13 := s1.trans (s2.trans s3)
          show ite (4 ≤ t) _ _
          rw [if_neg (show ¬ 4 ≤ t by omega)]
          refine ⟨rfl, tail p3 _ (ms.take j ++ ms.drop (j + 1)) _ _ ?_ ((hd4.same (s1.trans s2)).off hp3) (hd4.same s13) (b04.trans (But.of s13)) ?_ fun m hm => mb' m (mem_cut hm)⟩
          · rw [upd_same, cut_to, cut_from, List.map_append]
          · rw [List.length_append, List.length_take, List.length_drop]
            omega
      · rw [if_neg t3]
        have pw : (2 : Int) ^ d.toNat ≤ 2 ^ 12 := pow2_le (by omega)
        have p6 : (2 : Int) ^ 12 = 4096 := by decide
        have s0 : 0 ≤ ms.sum := by
          have f := (filter_sum (r := -1) (l := ms) fun x hx => by have := (mb x hx).1; omega)
          omega
        have c1 := room_pos p0 s0
        have c2 : room p ms.sum ≤ ms.sum + 1 := by
          have := Int.ediv_le_self (p - 1) s0
          unfold room
          omega
        split
        · refine ⟨D, ms, rfl, .inl (SqL.of eD4), _, p, rfl, p0, p5, _, rfl, q, hd4, by decide, by decide, fun y H5 y0 y1 hd5 b5 => ⟨_, b5 _ _ eD4 n1, j, ?_, rfl, tail D _ (ms.set j (room p ms.sum + 1 + y)) _ _ ?_ n1 (handPut hd5 n1 n2) ?_ ?_ fun m hm => ?_⟩⟩
          · unfold ixN
            rw [if_pos (by omega), if_pos (by rw [List.length_map]; omega)]
            simp
          · rw [upd_same, List.map_set]
          · exact butAt (b04.trans b5) fD
          · rw [List.length_set]
            exact ml
          · rcases List.mem_or_eq_of_mem_set hm with hm | rfl
            · exact mb' m hm
            · exact ⟨by omega, by omega⟩
        · exact ⟨rfl, tail D H4 ms _ _ eD4 n1 hd4 b04 ml mb'⟩
noncomputable def srvB (p : Int) (ms : List Int) : Bool := @decide (Srv p 0 ms) (Classical.propDecidable _)
theorem srvB_true {p : Int} {ms : List Int} (h : Srv p 0 ms) : srvB p ms = true := @decide_eq_true _ (Classical.propDecidable _) h
theorem srvB_false {p : Int} {ms : List Int} (h : ¬ Srv p 0 ms) : srvB p ms = false := @decide_eq_false _ (Classical.propDecidable _) h
theorem serves_call {H : Hp} {a : Addr} {ns : List Int} {p : Int} {Q : VK} {E : XK} (hr : Row H a (ns.map V.int)) (p0 : 2 ≤ p) (p5 : p ≤ 5)
    (k : ∀ (ms : List Int) (H' : Hp), Same H H' → ms.Perm ns → ms.Pairwise (· ≤ ·) → Q (.bl (srvB p ms)) H') : sp_l_serves K [.ref a, .int p] H Q E :=
  ⟨a, ns, p, rfl, hr, p0, p5, fun ms H' s h1 h2 => ⟨fun v => by have z := k ms H' s h1 h2; rwa [srvB_true v] at z, fun v => by have z := k ms H' s h1 h2; rwa [srvB_false v] at z⟩⟩
end
end My
set_option Elab.async false
set_option linter.all false
set_option maxRecDepth 100000
set_option maxHeartbeats 4000000
namespace My
open PySem PySem.Spec PyProof.Rows L2 Gen
section
variable {P : Program} {w : World} {K : PySem.W.Frag} {mg : Str → Option Value} {base : Heap} { cBadPool cBadPeople cBadCoin : Addr}
/-- the first thing that is no coin -/
def BadAt (H : Hp) (x : V) (a : Addr) (xs : List V) (i : Nat) (y : V) : Prop := x = .ref a ∧ Row H a xs ∧ xs.length ≤ 12 ∧ (∀ j z, j < i → xs[j]? = some z → whole z 1 1000000000 = true) ∧ xs[i]? = some y ∧ whole y 1 1000000000 = false
theorem lk_place {x y : V} : List.lookup ("place" : Str) [(("what" : Str), x), (("place" : Str), y)] = some y := by
  have e : (("place" : Str) == ("what" : Str)) = false := by decide
  simp [List.lookup, e]
theorem lk_what {x y : V} : List.lookup ("what" : Str) [(("what" : Str), x), (("place" : Str), y)] = some x := by simp [List.lookup]
theorem bad_few {H : Hp} {x : V} {a : Addr} {xs : List V} {i : Nat} {y : V} (b : BadAt H x a xs i y) : FewRow H x := ⟨a, xs, b.1, b.2.1, b.2.2.1⟩
theorem ok_few {H : Hp} {x : V} {a : Addr} {ns : List Int} (b : PoolOk H x a ns) : FewRow H x := ⟨a, _, b.1, b.2.1, by rw [List.length_map]; exact b.2.2.1⟩
theorem bad_ok {H : Hp} {x : V} {a b : Addr} {xs : List V} {i : Nat} {y : V} {ns : List Int} (h : BadAt H x a xs i y) (o : PoolOk H x b ns) : False := by
  obtain ⟨rfl, r, _, _, e, wy⟩ := h
  obtain ⟨e1, r2, _, nb⟩ := o
  cases e1
  rw [Row.one r r2] at e
  obtain ⟨c, hc, rfl⟩ := nat_map e
  have cb := nb c (List.mem_of_getElem? hc)
  rw [whole_int cb.1 cb.2] at wy
  cases wy
theorem bad_one {H : Hp} {x : V} {a b : Addr} {xs zs : List V} {i j : Nat} {y z : V} (h : BadAt H x a xs i y) (o : BadAt H x b zs j z) : i = j := by
  obtain ⟨rfl, r, _, f1, e, wy⟩ := h
  obtain ⟨e1, r2, _, f2, e2, wz⟩ := o
  cases e1
  rw [Row.one r r2] at e f1
  rcases Nat.lt_trichotomy i j with g | g | g
  · rw [f2 i y g e] at wy
    cases wy
  · exact g
  · rw [f1 j z g e2] at wz
    cases wz
theorem int_inj : ∀ {ns ms : List Int}, ns.map V.int = ms.map V.int → ns = ms
  | [], [], _ => rfl
  | [], _ :: _, h => by cases h
  | _ :: _, [], h => by cases h
  | n :: ns, m :: ms, h => by
    rw [List.map_cons, List.map_cons] at h
    injection h with h1 h2
    injection h1 with h3
    rw [h3, int_inj h2]
theorem row_arg {H : Hp} {a : Addr} {ns : List Int} (hr : Row H a (ns.map V.int)) : Arg H (.ref a) := by
  refine ⟨?_, fun b xs e r y hy => ?_⟩
  · rcases hr with h | h
    · exact .inl ⟨_, h⟩
    · exact .inr (.inl ⟨_, h⟩)
  · cases e
    rw [← Row.one hr r] at hy
    obtain ⟨n, _, rfl⟩ := List.mem_map.mp hy
    exact True.intro
theorem ok_no {cB : Addr} {H : Hp} {x : V} {a : Addr} {ns : List Int} {E : XK} (o : PoolOk H x a ns) : PoolBad cB x H E := ⟨fun n => absurd (ok_few o) n, fun a xs i y e1 e2 e3 e4 e5 e6 => (bad_ok ⟨e1, e2, e3, e4, e5, e6⟩ o).elim⟩
theorem ok_one {H : Hp} {x : V} {a b : Addr} {ns ms : List Int} (o : PoolOk H x a ns) (o2 : PoolOk H x b ms) : ms = ns := by
  obtain ⟨rfl, r, _⟩ := o
  obtain ⟨e, r2, _⟩ := o2
  cases e
  exact int_inj (Row.one r2 r)
theorem ok_arg {H : Hp} {x : V} {a : Addr} {ns : List Int} (o : PoolOk H x a ns) : Arg H x := by
  obtain ⟨rfl, r, _⟩ := o
  exact row_arg r
theorem ok_same {H H' : Hp} {x : V} {a : Addr} {ns : List Int} (o : PoolOk H x a ns) (s : Same H H') : PoolOk H' x a ns := ⟨o.1, o.2.1.same s, o.2.2⟩
theorem no_two {A : Prop} {p : Int} (p0 : 2 ≤ p) (p5 : p ≤ 5) (w : whole (.int p) 2 5 = false) : A := absurd ((whole_int p0 p5).symm.trans w) (by decide)
section
variable {H : Hp} {x : V} {a : Addr} {ns : List Int} {p : Int} {cB cC cP : Addr} {Q : VK} {E : XK}
theorem room_call (o : PoolOk H x a ns) (p0 : 2 ≤ p) (p5 : p ≤ 5) (k : ∀ (H' : Hp) (b : Addr) (ms : List Int), Same H H' → H' b = some (.tup ((sumsI ms ms.length).map fun s => V.int (room p s))) → ms.Perm ns → ms.Pairwise (· ≤ ·) → Q (.ref b) H') : sp_room_row K cB cP [x, .int p] H Q E :=
  ⟨x, .int p, rfl, ok_arg o, True.intro, ok_no o, fun _ _ _ w => no_two p0 p5 w, fun b ms p' o2 e _ _ => by
    cases e
    rw [ok_one o o2]
    exact k⟩
theorem fit_call (o : PoolOk H x a ns) (p0 : 2 ≤ p) (p5 : p ≤ 5) (k : ∀ (H' : Hp) (v : V) (ms : List Int) (r : Option (Int × Int)), Same H H' → FitV H' v r → Fits p ms r → ms.Perm ns → ms.Pairwise (· ≤ ·) → Q v H') : sp_fitting_coins K cB cP [x, .int p] H Q E :=
  ⟨x, .int p, rfl, ok_arg o, True.intro, ok_no o, fun _ _ _ w => no_two p0 p5 w, fun b ms p' o2 e _ _ => by
    cases e
    rw [ok_one o o2]
    exact k⟩
theorem next_call (o : PoolOk H x a ns) (p0 : 2 ≤ p) (p5 : p ≤ 5) (k : ∀ (H' : Hp) (ms : List Int) (r : Option (Int × Int)), Same H H' → Fits p ms r → ms.Perm ns → ms.Pairwise (· ≤ ·) → Q (NextV r) H') : sp_next_coin K cB cP [x, .int p] H Q E :=
  ⟨x, .int p, rfl, ok_arg o, True.intro, ok_no o, fun _ _ _ w => no_two p0 p5 w, fun b ms p' o2 e _ _ => by
    cases e
    rw [ok_one o o2]
    exact k⟩
theorem put_call {c : Int} (o : PoolOk H x a ns) (c0 : 1 ≤ c) (c1 : c ≤ 1000000000) (p0 : 2 ≤ p) (p5 : p ≤ 5) (k : ∀ (H' : Hp) (zs : List Int), Same H H' → zs.Perm (ns ++ [c]) → zs.Pairwise (· ≤ ·) → Q (.bl (srvB p zs)) H') : sp_may_put K cB cC cP [x, .int c, .int p] H Q E :=
  ⟨x, .int c, .int p, rfl, ok_arg o, True.intro, True.intro, ok_no o, fun _ _ _ w => absurd ((whole_int c0 c1).symm.trans w) (by decide), fun _ _ _ _ w => no_two p0 p5 w, fun b ms c' p' o2 e1 _ _ e2 _ _ => by
    cases e1
    cases e2
    rw [ok_one o o2]
    intro H' zs s z1 z2
    have z := k H' zs s z1 z2
    have e : decide (ab p zs zs.length = []) = srvB p zs := by
      by_cases v : Srv p 0 zs
      · rw [srvB_true v, decide_eq_true (ab_nil.mpr v)]
      · rw [srvB_false v, decide_eq_false (fun z => v (ab_nil.mp z))]
    rw [e]
    exact z⟩
end
def sp_l_rooms_right (_ : PySem.W.Frag) : Sp := fun vs H Q _ => ∃ (a : Addr) (ns : List Int) (p : Int), vs = [.ref a, .int p] ∧ PoolOk H (.ref a) a ns ∧ 2 ≤ p ∧ p ≤ 5 ∧ ∀ H', Same H H' → Q (.bl true) H'
theorem len_l_rooms_right {vs H Q E} (h : sp_l_rooms_right K vs H Q E) : vs.length = 2 := by
  obtain ⟨_, _, _, rfl, _⟩ := h; rfl
theorem ok_l_rooms_right {f : Addr} {fd : FuncData} (F : Fun K "_law_rooms_right" "_law_rooms_right" s_l_rooms_right f fd) (T : Txt K mg cBadPool cBadPeople cBadCoin) : FnOk P w K mg base CX0 5 f fd ps_l_rooms_right (sp_l_rooms_right K) := by
  obtain ⟨f_room_row, fd_room_row, F_room_row, m_room_row, b_room_row⟩ := T.d_room_row
  have G_room_row : FnOk P w K mg base (L2.CX P w) 4 f_room_row fd_room_row ps_room_row (sp_room_row K cBadPool cBadPeople) := ok_room_row F_room_row T
  obtain ⟨f_l_is_whole, fd_l_is_whole, F_l_is_whole, m_l_is_whole, b_l_is_whole⟩ := T.d_l_is_whole
  have G_l_is_whole : FnOk P w K mg base CX0 1 f_l_is_whole fd_l_is_whole ps_l_is_whole (sp_l_is_whole K) := ok_l_is_whole F_l_is_whole T
  obtain ⟨f_l_next, fd_l_next, F_l_next, m_l_next, b_l_next⟩ := T.d_l_next
  have G_l_next : FnOk P w K mg base CX0 1 f_l_next fd_l_next ps_l_next (sp_l_next K) := ok_l_next F_l_next T
  refine F.ok (k := 4) sc_l_rooms_right (fun vs H Q E h => len_l_rooms_right h) (fun cdv A outer s H vs Q E hr h => ?_)
  refine ⟨_, (pss_cons (ps_set (i := 2) sc_l_rooms_right.nd rfl (Or.inl rfl) (pe_call G_room_row (hr.mono (by decide)) (by rfl) m_room_row F_room_row.kp b_room_row .nil passL (pa_cons (pv 0) (pa_cons (pv 1) pa_nil))))
      (pss_cons (ps_set (i := 3) sc_l_rooms_right.nd rfl (Or.inl rfl) (pe_callB cr_sortedE (by rfl) T.n_sorted (by decide +kernel) (pa_cons (pe_callTy call_list_of (by rfl) T.n_list (by decide +kernel) (pa_cons (pv 0) pa_nil)) pa_nil)))
      (pss_cons (ps_if (PW.pt (pw_or (pt_not (pt_val (pe_callB call_isi (by rfl) T.n_isinstance (by decide +kernel) (pa_cons (pv 2) (pa_cons (pe_bltn (v := .ty "tuple") (by rfl) T.n_tuple (by decide +kernel) rfl) pa_nil))))) (pw_or1 (pt_cmpR op_ne (pe_callB call_len_seq (by rfl) T.n_len (by decide +kernel) (pa_cons (pv 2) pa_nil)) (pe_op op_add (pe_callB call_len_seq (by rfl) T.n_len (by decide +kernel) (pa_cons (pv 3) pa_nil)) pe_int) (nomark _))))) (pss_one (ps_ret pe_bl)) pss_nil)
      (pss_cons (ps_for PassesOwn.never rfl (pi_range1 (by rfl) T.n_range (pa_cons (pe_callB call_len_seq (by rfl) T.n_len (by decide +kernel) (pa_cons (pv 2) pa_nil)) pa_nil)) (pg_name (i := 4) sc_l_rooms_right.nd rfl (Or.inl rfl))
      (pss_one (ps_if (PW.pt (pw_or (pt_not (pt_val (pe_call G_l_is_whole (hr.mono (by decide)) (by rfl) m_l_is_whole F_l_is_whole.kp b_l_is_whole .nil pass0 (pa_cons (pe_ix ix_tup (pv 2) (pv 4) (fun _ _ => rfl)) pa_nil)))) (pw_or1 (pt_cmpR op_ne (pe_ix ix_tup (pv 2) (pv 4) (fun _ _ => rfl)) (pe_call G_l_next (hr.mono (by decide)) (by rfl) m_l_next F_l_next.kp b_l_next .nil pass0 (pa_cons (pe_callB (cr_sumE rfl) (by rfl) T.n_sum (by decide +kernel) (pa_cons (pe_slice sl_list (pv 3) po_none (po_some (pv 4))) pa_nil)) (pa_cons (pv 1) pa_nil))) (nomark _))))) (pss_one (ps_ret pe_bl)) pss_nil)))
      (pss_one (ps_ret pe_bl)))))), ?_⟩
  obtain ⟨a, ns, p, rfl, o, p0, p5, k⟩ := h
  simp only [tSeq, tAsg, tDrop, tRet, tRetN, tIfS, tNext, tTest, tB, tNot, tAnd, tOr, tChain, tIf, tAndV, tOrV, tNotV, tOp, tUn, tCB, tCons, tNil, tVar, tC, tCall, tCallS, gName, rI, rI0, rU, rEq, rNe, tTup, tLst, gSub, rSetL, rIxL, rIxT, L2.start, List.map_cons, List.map_nil, List.length_cons, List.length_nil, Nat.reduceAdd, Nat.reduceSub, List.replicate_succ, List.replicate_zero, List.getElem?_cons_zero, List.getElem?_cons_succ, List.set_cons_zero, List.set_cons_succ, Option.some.injEq, exists_eq_left', exists_eq_left, exists_and_left, V.int.injEq, V.bl.injEq, V.ref.injEq, V.str.injEq, List.cons.injEq, and_true, true_and, List.nil_append, List.cons_append, List.append_nil, reduceCtorEq, false_and, exists_false, or_false, false_or, and_false, Int.reduceNeg, decide_eq_true_eq, Bool.not_eq_true', decide_eq_false_iff_not, and_assoc, tYes, ↓reduceIte, wipe, Bool.false_eq_true, Bool.true_eq_false, cxOf, false_implies, true_implies, implies_true, forall_const]
  refine room_call o p0 p5 fun H1 b ms s1 eb p1 p2 => ?_
  simp only [tSeq, tAsg, tDrop, tRet, tRetN, tIfS, tNext, tTest, tB, tNot, tAnd, tOr, tChain, tIf, tAndV, tOrV, tNotV, tOp, tUn, tCB, tCons, tNil, tVar, tC, tCall, tCallS, gName, rI, rI0, rU, rEq, rNe, tTup, tLst, gSub, rSetL, rIxL, rIxT, L2.start, List.map_cons, List.map_nil, List.length_cons, List.length_nil, Nat.reduceAdd, Nat.reduceSub, List.replicate_succ, List.replicate_zero, List.getElem?_cons_zero, List.getElem?_cons_succ, List.set_cons_zero, List.set_cons_succ, Option.some.injEq, exists_eq_left', exists_eq_left, exists_and_left, V.int.injEq, V.bl.injEq, V.ref.injEq, V.str.injEq, List.cons.injEq, and_true, true_and, List.nil_append, List.cons_append, List.append_nil, reduceCtorEq, false_and, exists_false, or_false, false_or, and_false, Int.reduceNeg, decide_eq_true_eq, Bool.not_eq_true', decide_eq_false_iff_not, and_assoc, tYes, ↓reduceIte, wipe, Bool.false_eq_true, Bool.true_eq_false, cxOf, false_implies, true_implies, implies_true, forall_const, rSortedE]
  refine ⟨_, (o.2.1.same s1).sq, fun l hl => ⟨ns, .inl (SqL.of upd_same), fun ks c k1 k2 hc => ?_⟩⟩
  have ek := PySem.W.os_sorted_one (k1.trans p1.symm) k2 p2
  subst ek
  have s2 := (Same.new (o := HO.lst (ns.map V.int)) hl).trans (Same.new (o := HO.lst (ks.map V.int)) hc)
  have eb2 := s2 _ _ eb
  have ec : upd (upd H1 l (HO.lst (ns.map V.int))) c (HO.lst (ks.map V.int)) c = some (HO.lst (ks.map V.int)) := upd_same
  have kl : ks.length ≤ 12 := by rw [p1.length_eq]; exact o.2.2.1
  generalize upd (upd H1 l (HO.lst (ns.map V.int))) c (HO.lst (ks.map V.int)) = H2 at s2 eb2 ec ⊢
  have ln : ((sumsI ks ks.length).map fun s => V.int (room p s)).length = ks.length + 1 := by rw [List.length_map, sumsI_len]
  refine isi_tuple eb2 ⟨true, rfl, ?_⟩
  rw [if_neg (fun z => by cases z)]
  refine ⟨_, .inr (SqT.of eb2), _, .inl (SqL.of ec), rfl, ?_⟩
  rw [if_neg (fun z => z (by rw [ln, List.length_map]; omega))]
  refine ⟨_, rfl, b, rfl, _, .inr (SqT.of eb2), _, rfl, by omega, by omega, for_range (lo := 0) (fun i z h => ∃ v, z = [some (.ref a), some (.int p), some (.ref b), some (.ref c), v] ∧ Same H2 h) ⟨none, rfl, Same.refl H2⟩ ?_ ?_⟩
  · rintro i z h hi ⟨v, rfl, s3⟩
    have hi2 : i < ks.length + 1 := by omega
    have at_ : ((sumsI ks ks.length).map fun s => V.int (room p s))[i]? = some (V.int (room p (ks.take i).sum)) := by
      rw [List.getElem?_map]
      unfold sumsI
      rw [List.getElem?_map, List.getElem?_range hi2]
      rfl
    have eb3 := s3 _ _ eb2
    have ec3 := s3 _ _ ec
    simp only [tSeq, tAsg, tDrop, tRet, tRetN, tIfS, tNext, tTest, tB, tNot, tAnd, tOr, tChain, tIf, tAndV, tOrV, tNotV, tOp, tUn, tCB, tCons, tNil, tVar, tC, tCall, tCallS, gName, rI, rI0, rU, rEq, rNe, tTup, tLst, gSub, rSetL, rIxL, rIxT, L2.start, List.map_cons, List.map_nil, List.length_cons, List.length_nil, Nat.reduceAdd, Nat.reduceSub, List.replicate_succ, List.replicate_zero, List.getElem?_cons_zero, List.getElem?_cons_succ, List.set_cons_zero, List.set_cons_succ, Option.some.injEq, exists_eq_left', exists_eq_left, exists_and_left, V.int.injEq, V.bl.injEq, V.ref.injEq, V.str.injEq, List.cons.injEq, and_true, true_and, List.nil_append, List.cons_append, List.append_nil, reduceCtorEq, false_and, exists_false, or_false, false_or, and_false, Int.reduceNeg, decide_eq_true_eq, Bool.not_eq_true', decide_eq_false_iff_not, and_assoc, tYes, ↓reduceIte, wipe, Bool.false_eq_true, Bool.true_eq_false, cxOf, false_implies, true_implies, implies_true, forall_const, sp_l_is_whole, sp_l_next, isI]
    rw [Int.zero_add]
    refine ⟨_, SqT.of eb3, _, atI_nat at_, True.intro, _, SqT.of eb3, _, atI_nat at_, ?_⟩
    refine ⟨_, rfl, _, rfl, _, rfl, c, _, rfl, SqL.of ec3, fun q hq => ⟨q, ks.take i, rfl, .inl (SqL.of (by rw [upd_same, cut_to])), _, rfl, p0, p5, rfl, ?_⟩⟩
    rw [if_neg (fun z => z rfl)]
    exact s3.trans (Same.new hq)
  · rintro z h ⟨v, rfl, s3⟩
    exact k h (s1.trans (s2.trans s3))
def KindW (nm : Str) : Prop := nm = "rooms" ∨ nm = "fitting" ∨ nm = "next" ∨ nm = "put"
def sp_l_told (_ : PySem.W.Frag) : Sp := fun vs H Q _ => ∃ (nm : Str) (x u y : V), vs = [.str nm, x, u, y] ∧ KindW nm ∧ Arg H x ∧ Plain H u ∧ Plain H y ∧
  ((¬ FewRow H x ∧ ∀ H' p, Same H H' → H p = none → H' p = some (.tup [.str "pool", .int 0, .str "many"]) → Q (.ref p) H') ∨
    (∃ a xs i z, BadAt H x a xs i z ∧ ∀ H' p, Same H H' → H p = none → H' p = some (.tup [.str "pool", .int (i : Nat), .str "coin"]) → Q (.ref p) H') ∨
    (∃ a ns, PoolOk H x a ns ∧ nm = "put" ∧ whole u 1 1000000000 = false ∧ ∀ H' p, Same H H' → H p = none → H' p = some (.tup [.str "coin", .int 0]) → Q (.ref p) H') ∨
    (∃ a ns, PoolOk H x a ns ∧ whole u 1 1000000000 = true ∧ whole y 2 5 = false ∧ ∀ H' p, Same H H' → H p = none → H' p = some (.tup [.str "people", .int 0]) → Q (.ref p) H'))
theorem len_l_told {vs H Q E} (h : sp_l_told K vs H Q E) : vs.length = 4 := by
  obtain ⟨_, _, _, _, rfl, _⟩ := h; rfl
theorem ok_l_told {f : Addr} {fd : FuncData} (F : Fun K "_law_told" "_law_told" s_l_told f fd) (T : Txt K mg cBadPool cBadPeople cBadCoin) : FnOk P w K mg base CX0 6 f fd ps_l_told (sp_l_told K) := by
  obtain ⟨f_may_put, fd_may_put, F_may_put, m_may_put, b_may_put⟩ := T.d_may_put
  have G_may_put : FnOk P w K mg base (L2.CX P w) 4 f_may_put fd_may_put ps_may_put (sp_may_put K cBadPool cBadCoin cBadPeople) := ok_may_put F_may_put T
  obtain ⟨f_room_row, fd_room_row, F_room_row, m_room_row, b_room_row⟩ := T.d_room_row
  have G_room_row : FnOk P w K mg base (L2.CX P w) 4 f_room_row fd_room_row ps_room_row (sp_room_row K cBadPool cBadPeople) := ok_room_row F_room_row T
  obtain ⟨f_fitting_coins, fd_fitting_coins, F_fitting_coins, m_fitting_coins, b_fitting_coins⟩ := T.d_fitting_coins
  have G_fitting_coins : FnOk P w K mg base (L2.CX P w) 4 f_fitting_coins fd_fitting_coins ps_fitting_coins (sp_fitting_coins K cBadPool cBadPeople) := ok_fitting_coins F_fitting_coins T
  obtain ⟨f_next_coin, fd_next_coin, F_next_coin, m_next_coin, b_next_coin⟩ := T.d_next_coin
  have G_next_coin : FnOk P w K mg base (L2.CX P w) 5 f_next_coin fd_next_coin ps_next_coin (sp_next_coin K cBadPool cBadPeople) := ok_next_coin F_next_coin T
  refine F.ok (k := 5) sc_l_told (fun vs H Q E h => len_l_told h) (fun cdv A outer s H vs Q E hr h => ?_)
  refine ⟨_, (pss_one (ps_try_mix rfl rfl takes0 (fun W pn xe tk _ => (pss_cons (ps_if (pt_cmpR op_eq (pv 0) pe_str (nomark _)) (pss_one (ps_ret (by exact (pe_callS G_room_row (hr.mono (by decide)) (by rfl) m_room_row F_room_row.kp b_room_row (fun σ => passAt tk σ) (pa_cons (pv 1) (pa_cons (pv 3) pa_nil)))))) pss_nil)
      (pss_cons (ps_if (pt_cmpR op_eq (pv 0) pe_str (nomark _)) (pss_one (ps_ret (by exact (pe_callS G_fitting_coins (hr.mono (by decide)) (by rfl) m_fitting_coins F_fitting_coins.kp b_fitting_coins (fun σ => passAt tk σ) (pa_cons (pv 1) (pa_cons (pv 3) pa_nil)))))) pss_nil)
      (pss_cons (ps_if (pt_cmpR op_eq (pv 0) pe_str (nomark _)) (pss_one (ps_ret (by exact (pe_callS G_next_coin (hr.mono (by decide)) (by rfl) m_next_coin F_next_coin.kp b_next_coin (fun σ => passAt tk σ) (pa_cons (pv 1) (pa_cons (pv 3) pa_nil)))))) pss_nil)
      (pss_one (ps_ret (by exact (pe_callS G_may_put (hr.mono (by decide)) (by rfl) m_may_put F_may_put.kp b_may_put (fun σ => passAt tk σ) (pa_cons (pv 1) (pa_cons (pv 2) (pa_cons (pv 3) pa_nil))))))))))) (HdsX.asn (i := 4) ⟨rfl, by decide, Or.inl T.y_BadPool.gC⟩ sc_l_told.nd rfl rfl (fun a oe cls d pn hz hf => (pss_one (ps_ret (pe_tup (pa_cons pe_str (pa_cons (pe_xf T.x_BadPool T.f_BadPool_place hz hf (pv 4)) (pa_cons (pe_xf T.x_BadPool T.f_BadPool_what hz hf (pv 4)) pa_nil))))))) (HdsX.one ⟨rfl, by decide, Or.inl T.y_BadCoin.gC⟩ (fun a oe cls d pn hz hf => (pss_one (ps_ret (pe_tup (pa_cons pe_str (pa_cons pe_int pa_nil)))))) (HdsX.one ⟨rfl, by decide, Or.inl T.y_BadPeople.gC⟩ (fun a oe cls d pn hz hf => (pss_one (ps_ret (pe_tup (pa_cons pe_str (pa_cons pe_int pa_nil)))))) HdsX.nil))))), ?_⟩
  obtain ⟨nm, x, u, y, rfl, kd, hx, hu, hy, k⟩ := h
  have n1 : ¬ ("fitting" : Str) = "rooms" := by decide
  have n2 : ¬ ("next" : Str) = "rooms" := by decide
  have n3 : ¬ ("next" : Str) = "fitting" := by decide
  have n4 : ¬ ("put" : Str) = "rooms" := by decide
  have n5 : ¬ ("put" : Str) = "fitting" := by decide
  have n6 : ¬ ("put" : Str) = "next" := by decide
  simp only [tSeq, tAsg, tDrop, tRet, tRetN, tIfS, tNext, tTest, tB, tNot, tAnd, tOr, tChain, tIf, tAndV, tOrV, tNotV, tOp, tUn, tCB, tCons, tNil, tVar, tC, tCall, tCallS, gName, rI, rI0, rU, rEq, rNe, tTup, tLst, gSub, rSetL, rIxL, rIxT, L2.start, List.map_cons, List.map_nil, List.length_cons, List.length_nil, Nat.reduceAdd, Nat.reduceSub, List.replicate_succ, List.replicate_zero, List.getElem?_cons_zero, List.getElem?_cons_succ, List.set_cons_zero, List.set_cons_succ, Option.some.injEq, exists_eq_left', exists_eq_left, exists_and_left, V.int.injEq, V.bl.injEq, V.ref.injEq, V.str.injEq, List.cons.injEq, and_true, true_and, List.nil_append, List.cons_append, List.append_nil, reduceCtorEq, false_and, exists_false, or_false, false_or, and_false, Int.reduceNeg, decide_eq_true_eq, Bool.not_eq_true', decide_eq_false_iff_not, and_assoc, tYes, ↓reduceIte, wipe, Bool.false_eq_true, Bool.true_eq_false, cxOf, false_implies, true_implies, implies_true, forall_const, sp_room_row, sp_fitting_coins, sp_next_coin, sp_may_put, PoolBad, WE, wMix, suiteOf, Ends.off, tXf, T.m_BadPool_BadPool, T.m_BadPeople_BadPool, T.m_BadPeople_BadPeople, T.m_BadPeople_BadCoin, T.m_BadCoin_BadCoin, T.m_BadCoin_BadPool]
  have tl : ∀ (u : Str) (i : Int), (∀ H' p, Same H H' → H p = none → H' p = some (.tup [.str "pool", .int i, .str u]) → Q (.ref p) H') → ∀ (H' : Hp) (d : Addr), Same H H' → H' d = none → ∀ a, upd H' d (bad2 i u) a = none →
      ∃ x, upd H' d (bad2 i u) d = some (HO.xd x) ∧ ∃ x_1, List.lookup ("place" : Str) x = some x_1 ∧ ∃ x, upd H' d (bad2 i u) d = some (HO.xd x) ∧ ∃ x_2, List.lookup ("what" : Str) x = some x_2 ∧ 3 ≤ sizeLine ∧
        ∀ p, upd H' d (bad2 i u) p = none → Q (.ref p) (upd (upd H' d (bad2 i u)) p (.tup [.str "pool", x_1, x_2])) :=
    fun u i k H' d s hd a ha => ⟨_, upd_same, _, lk_place, _, upd_same, _, lk_what, by decide, fun p hp => k _ p (s.trans ((Same.new hd).trans (Same.new hp))) (Same.free (s.trans (Same.new hd)) hp) upd_same⟩
  rcases kd with rfl | rfl | rfl | rfl
  · simp only [tSeq, tAsg, tDrop, tRet, tRetN, tIfS, tNext, tTest, tB, tNot, tAnd, tOr, tChain, tIf, tAndV, tOrV, tNotV, tOp, tUn, tCB, tCons, tNil, tVar, tC, tCall, tCallS, gName, rI, rI0, rU, rEq, rNe, tTup, tLst, gSub, rSetL, rIxL, rIxT, L2.start, List.map_cons, List.map_nil, List.length_cons, List.length_nil, Nat.reduceAdd, Nat.reduceSub, List.replicate_succ, List.replicate_zero, List.getElem?_cons_zero, List.getElem?_cons_succ, List.set_cons_zero, List.set_cons_succ, Option.some.injEq, exists_eq_left', exists_eq_left, exists_and_left, V.int.injEq, V.bl.injEq, V.ref.injEq, V.str.injEq, List.cons.injEq, and_true, true_and, List.nil_append, List.cons_append, List.append_nil, reduceCtorEq, false_and, exists_false, or_false, false_or, and_false, Int.reduceNeg, decide_eq_true_eq, Bool.not_eq_true', decide_eq_false_iff_not, and_assoc, tYes, ↓reduceIte, wipe, Bool.false_eq_true, Bool.true_eq_false, cxOf, false_implies, true_implies, implies_true, forall_const]
    refine ⟨rfl, hx, hy, ?_⟩
    rcases k with ⟨n, k⟩ | ⟨a, xs, i, z, b, k⟩ | ⟨_, _, _, e, _⟩ | ⟨a, ns, o, _, wy, k⟩
    · exact ⟨fun _ => tl _ _ k, fun a xs i z e1 e2 e3 e4 e5 e6 => absurd (bad_few ⟨e1, e2, e3, e4, e5, e6⟩) n, fun a ns o => absurd (ok_few o) n, fun a ns p o => absurd (ok_few o) n⟩
    · refine ⟨fun n => absurd (bad_few b) n, fun a xs j z e1 e2 e3 e4 e5 e6 => ?_, fun a ns o => (bad_ok b o).elim, fun a ns p o => (bad_ok b o).elim⟩
      obtain rfl := bad_one b ⟨e1, e2, e3, e4, e5, e6⟩
      exact tl _ _ k
    · exact absurd e (by decide)
    · exact ⟨fun n => absurd (ok_few o) n, fun a xs j z e1 e2 e3 e4 e5 e6 => (bad_ok ⟨e1, e2, e3, e4, e5, e6⟩ o).elim, fun _ _ _ _ H' s a ha => ⟨by decide, fun p hp => k _ p (s.trans (Same.new hp)) (Same.free s hp) upd_same⟩, fun a ns p _ e p0 p5 => no_two p0 p5 (e ▸ wy)⟩
  · simp only [tSeq, tAsg, tDrop, tRet, tRetN, tIfS, tNext, tTest, tB, tNot, tAnd, tOr, tChain, tIf, tAndV, tOrV, tNotV, tOp, tUn, tCB, tCons, tNil, tVar, tC, tCall, tCallS, gName, rI, rI0, rU, rEq, rNe, tTup, tLst, gSub, rSetL, rIxL, rIxT, L2.start, List.map_cons, List.map_nil, List.length_cons, List.length_nil, Nat.reduceAdd, Nat.reduceSub, List.replicate_succ, List.replicate_zero, List.getElem?_cons_zero, List.getElem?_cons_succ, List.set_cons_zero, List.set_cons_succ, Option.some.injEq, exists_eq_left', exists_eq_left, exists_and_left, V.int.injEq, V.bl.injEq, V.ref.injEq, V.str.injEq, List.cons.injEq, and_true, true_and, List.nil_append, List.cons_append, List.append_nil, reduceCtorEq, false_and, exists_false, or_false, false_or, and_false, Int.reduceNeg, decide_eq_true_eq, Bool.not_eq_true', decide_eq_false_iff_not, and_assoc, tYes, ↓reduceIte, wipe, Bool.false_eq_true, Bool.true_eq_false, cxOf, false_implies, true_implies, implies_true, forall_const, n1]
    refine ⟨rfl, rfl, hx, hy, ?_⟩
    rcases k with ⟨n, k⟩ | ⟨a, xs, i, z, b, k⟩ | ⟨_, _, _, e, _⟩ | ⟨a, ns, o, _, wy, k⟩
    · exact ⟨fun _ => tl _ _ k, fun a xs i z e1 e2 e3 e4 e5 e6 => absurd (bad_few ⟨e1, e2, e3, e4, e5, e6⟩) n, fun a ns o => absurd (ok_few o) n, fun a ns p o => absurd (ok_few o) n⟩
    · refine ⟨fun n => absurd (bad_few b) n, fun a xs j z e1 e2 e3 e4 e5 e6 => ?_, fun a ns o => (bad_ok b o).elim, fun a ns p o => (bad_ok b o).elim⟩
      obtain rfl := bad_one b ⟨e1, e2, e3, e4, e5, e6⟩
      exact tl _ _ k
    · exact absurd e (by decide)
    · exact ⟨fun n => absurd (ok_few o) n, fun a xs j z e1 e2 e3 e4 e5 e6 => (bad_ok ⟨e1, e2, e3, e4, e5, e6⟩ o).elim, fun _ _ _ _ H' s a ha => ⟨by decide, fun p hp => k _ p (s.trans (Same.new hp)) (Same.free s hp) upd_same⟩, fun a ns p _ e p0 p5 => no_two p0 p5 (e ▸ wy)⟩
  · simp only [tSeq, tAsg, tDrop, tRet, tRetN, tIfS, tNext, tTest, tB, tNot, tAnd, tOr, tChain, tIf, tAndV, tOrV, tNotV, tOp, tUn, tCB, tCons, tNil, tVar, tC, tCall, tCallS, gName, rI, rI0, rU, rEq, rNe, tTup, tLst, gSub, rSetL, rIxL, rIxT, L2.start, List.map_cons, List.map_nil, List.length_cons, List.length_nil, Nat.reduceAdd, Nat.reduceSub, List.replicate_succ, List.replicate_zero, List.getElem?_cons_zero, List.getElem?_cons_succ, List.set_cons_zero, List.set_cons_succ, Option.some.injEq, exists_eq_left', exists_eq_left, exists_and_left, V.int.injEq, V.bl.injEq, V.ref.injEq, V.str.injEq, List.cons.injEq, and_true, true_and, List.nil_append, List.cons_append, List.append_nil, reduceCtorEq, false_and, exists_false, or_false, false_or, and_false, Int.reduceNeg, decide_eq_true_eq, Bool.not_eq_true', decide_eq_false_iff_not, and_assoc, tYes, ↓reduceIte, wipe, Bool.false_eq_true, Bool.true_eq_false, cxOf, false_implies, true_implies, implies_true, forall_const, n2, n3]
    refine ⟨rfl, rfl, rfl, hx, hy, ?_⟩
    rcases k with ⟨n, k⟩ | ⟨a, xs, i, z, b, k⟩ | ⟨_, _, _, e, _⟩ | ⟨a, ns, o, _, wy, k⟩
    · exact ⟨fun _ => tl _ _ k, fun a xs i z e1 e2 e3 e4 e5 e6 => absurd (bad_few ⟨e1, e2, e3, e4, e5, e6⟩) n, fun a ns o => absurd (ok_few o) n, fun a ns p o => absurd (ok_few o) n⟩
    · refine ⟨fun n => absurd (bad_few b) n, fun a xs j z e1 e2 e3 e4 e5 e6 => ?_, fun a ns o => (bad_ok b o).elim, fun a ns p o => (bad_ok b o).elim⟩
      obtain rfl := bad_one b ⟨e1, e2, e3, e4, e5, e6⟩
      exact tl _ _ k
    · exact absurd e (by decide)
    · exact ⟨fun n => absurd (ok_few o) n, fun a xs j z e1 e2 e3 e4 e5 e6 => (bad_ok ⟨e1, e2, e3, e4, e5, e6⟩ o).elim, fun _ _ _ _ H' s a ha => ⟨by decide, fun p hp => k _ p (s.trans (Same.new hp)) (Same.free s hp) upd_same⟩, fun a ns p _ e p0 p5 => no_two p0 p5 (e ▸ wy)⟩
  · simp only [tSeq, tAsg, tDrop, tRet, tRetN, tIfS, tNext, tTest, tB, tNot, tAnd, tOr, tChain, tIf, tAndV, tOrV, tNotV, tOp, tUn, tCB, tCons, tNil, tVar, tC, tCall, tCallS, gName, rI, rI0, rU, rEq, rNe, tTup, tLst, gSub, rSetL, rIxL, rIxT, L2.start, List.map_cons, List.map_nil, List.length_cons, List.length_nil, Nat.reduceAdd, Nat.reduceSub, List.replicate_succ, List.replicate_zero, List.getElem?_cons_zero, List.getElem?_cons_succ, List.set_cons_zero, List.set_cons_succ, Option.some.injEq, exists_eq_left', exists_eq_left, exists_and_left, V.int.injEq, V.bl.injEq, V.ref.injEq, V.str.injEq, List.cons.injEq, and_true, true_and, List.nil_append, List.cons_append, List.append_nil, reduceCtorEq, false_and, exists_false, or_false, false_or, and_false, Int.reduceNeg, decide_eq_true_eq, Bool.not_eq_true', decide_eq_false_iff_not, and_assoc, tYes, ↓reduceIte, wipe, Bool.false_eq_true, Bool.true_eq_false, cxOf, false_implies, true_implies, implies_true, forall_const, n4, n5, n6]
    refine ⟨rfl, rfl, rfl, hx, hu, hy, ?_⟩
    rcases k with ⟨n, k⟩ | ⟨a, xs, i, z, b, k⟩ | ⟨a, ns, o, _, wu, k⟩ | ⟨a, ns, o, wu, wy, k⟩
    · exact ⟨fun _ => tl _ _ k, fun a xs i z e1 e2 e3 e4 e5 e6 => absurd (bad_few ⟨e1, e2, e3, e4, e5, e6⟩) n, fun a ns o => absurd (ok_few o) n, fun a ns o => absurd (ok_few o) n, fun a ns c p o => absurd (ok_few o) n⟩
    · refine ⟨fun n => absurd (bad_few b) n, fun a xs j z e1 e2 e3 e4 e5 e6 => ?_, fun a ns o => (bad_ok b o).elim, fun a ns o => (bad_ok b o).elim, fun a ns c p o => (bad_ok b o).elim⟩
      obtain rfl := bad_one b ⟨e1, e2, e3, e4, e5, e6⟩
      exact tl _ _ k
    · exact ⟨fun n => absurd (ok_few o) n, fun a xs j z e1 e2 e3 e4 e5 e6 => (bad_ok ⟨e1, e2, e3, e4, e5, e6⟩ o).elim, fun _ _ _ _ H' s a ha => ⟨by decide, fun p hp => k _ p (s.trans (Same.new hp)) (Same.free s hp) upd_same⟩, fun _ _ _ w => absurd (w.symm.trans wu) (by decide), fun a ns c p _ e c0 c1 => absurd ((whole_int c0 c1).symm.trans (e ▸ wu)) (by decide)⟩
    · exact ⟨fun n => absurd (ok_few o) n, fun a xs j z e1 e2 e3 e4 e5 e6 => (bad_ok ⟨e1, e2, e3, e4, e5, e6⟩ o).elim, fun _ _ _ w => absurd (wu.symm.trans w) (by decide), fun _ _ _ _ _ H' s a ha => ⟨by decide, fun p hp => k _ p (s.trans (Same.new hp)) (Same.free s hp) upd_same⟩, fun a ns c p _ _ _ _ e p0 p5 => no_two p0 p5 (e ▸ wy)⟩
end
end My
set_option Elab.async false
set_option linter.all false
set_option maxRecDepth 100000
set_option maxHeartbeats 4000000
/-! ## set(list of ints), sorted(set) of any length -/
namespace Gen
open PySem PySem.Spec PyProof.Rows L2
@[reducible] def vacant (w : World) : Obj := { cls := Value.type "set", dict := none, data := .set #[] 0 (.fresh 0 0 (!w.params.followText "set-order")) }
section
variable {P : Program} {w : World} {A : Around} {E : Value → Shared → Prop} {s : Shared}
/-- set(l) of a list of ints, however many -/
theorem set_of_ints {l : Addr} {its : Array Value} (ns : List Int) {Q : Value → Shared → Prop} (nh : A.handled = none) (il : s.heap.IsList l its) (ii : IntsAre its.toList ns) (le : ns.length + 1 < scanBound)
    (done : ∀ (g : Heap) (tk c : Nat), SetR w g s.heap.objs.size (fun j => decide (j ∈ ns)) c → c ≤ ns.length → (∀ b o, s.heap.get? b = some o → g.get? b = some o) → Q (.ref s.heap.objs.size) { s with heap := g, toks := tk }) :
    wpAny (model P w) A (call (.type "set") [.ref l]) Q E s := by
  have ez : its.size = ns.length := by
    rw [← IntsAre.length ii, Array.length_toList]
  have ⟨c1, t1, em⟩ := F.called_set.mro
  have ea := F.called_set.made; have eb := F.called_set.sub
  refine wpAny_call (codeAny_of_tree (?_ : wpAny _ _ (callAny (.type "set") _) _ _ _))
  refine wpAny_pure ⟨Code.quiet_builtin _ (by decide +kernel), codeAny_builtin F.entry_type_call ?_⟩
  rw [Around.under_plain (weight_type_call_type "set" [.ref l] []) rfl]
  have ec := F.called_set.notType; have ed := F.called_set.canCreate
  have ef := F.typeCall_set_1 (.ref l)
  repeat any_goals first | assumption | wp_step
  refine codeAny_mono (code_set_led1 (.ref l) (E := E) (Q₁ := fun x s1 => x = .ref s.heap.objs.size ∧ s1 = { s with heap := s.heap.push (vacant w) }) ⟨rfl, rfl⟩) fun r s1 hr => ?_
  match r, hr with
  | .error e, hr => exact hr
  | .ok (.ret x), hr =>
    obtain ⟨rfl, rfl⟩ := hr
    have at0 : (s.heap.push (vacant w)).get? s.heap.objs.size = some (vacant w) := Heap.get?_push_size _ rfl
    have ty : Shared.TypeIs { s with heap := s.heap.push (vacant w) } (.ref s.heap.objs.size) "set" := ⟨_, at0, rfl⟩
    have eg := F.called_set.init.lookup; have eh := F.called_set.init.bind (.ref s.heap.objs.size)
    repeat any_goals first | assumption | wp_step
    refine codeAny_mono (codeAny_call_builtin (R := wants (fun r s2 => r = .none ∧ ∃ g tk c, s2 = { s with heap := g, toks := tk } ∧ SetR w g s.heap.objs.size (fun j => decide (j ∈ ns)) c ∧ c ≤ ns.length ∧
        (∀ b o, s.heap.get? b = some o → g.get? b = some o)) E) F.called_set.init.plain F.entry_set_init (check_set_init_1 ty ?_)) fun r2 s2 hr2 => ?_
    · obtain ⟨⟨kc, kd, kx, ks⟩, ho, kcl, nl, kdt⟩ := il
      simp only at kcl kdt
      subst kcl kdt
      have ho1 := Heap.get?_push_of_some (vacant w) ho
      have ua := F.sub_list_set; have ub := F.sub_list_frozenset
      have uc : (Value.type "list" == Value.type "dict") = false := by decide
      have il1 : (s.heap.push (vacant w)).IsList l its := ⟨_, ho1, rfl, nl, rfl⟩
      unfold Builtin.«set.__init__» noKeywords Builtin.Frozenset.updateFrom
      generalize pg : pyIter = PG
      wp_walk
      subst pg
      refine wpAny_pyIter_list il1 (wpAny_bind (wpAny_runValue ?_))
      have lt : l < s.heap.objs.size := Heap.lt_size ho
      have nh3 : A.in1.in1.in1.handled = none := by simpa using nh
      have sz : (s.heap.push (vacant w)).objs.size = s.heap.objs.size + 1 := Heap.size_push ..
      have ne : l ≠ (s.heap.push (vacant w)).objs.size := by rw [sz]; exact Nat.ne_of_lt (Nat.lt_succ_of_lt lt)
      have nf : s.heap.objs.size ∉ [(s.heap.push (vacant w)).objs.size, l] := by
        rw [sz]
        simp only [List.mem_cons, List.not_mem_nil, or_false, not_or]
        exact ⟨Nat.ne_of_lt (Nat.lt_succ_self _), Nat.ne_of_gt lt⟩
      have vals : ∀ (i : Nat) (v : Value), its[i]? = some v → ∃ k t, ns[i]? = some k ∧ v = .int k t := fun i v hv => by
        have il : i < ns.length := ez ▸ (Array.getElem?_eq_some_iff.mp hv).1
        obtain ⟨t, e⟩ := PyProof.Rows.IntsAre.int_at ii i v (by rw [Array.getElem?_toList]; exact hv)
        exact ⟨ns[i], t, List.getElem?_eq_getElem il, by rw [e, List.getD_eq_getElem?_getD, List.getElem?_eq_getElem il] <;> rfl⟩
      refine set_update_ints ((Walks.list nh3 _ l ne its).toS) s.heap.objs.size nf ns ez le vals (its.size - 0) 0 _ (by omega) (Nat.zero_le _) ⟨⟨_, Heap.get?_push_size _ rfl, rfl, rfl⟩, il1.push _⟩ ⟨0, Nat.le_refl 0, setR_new_at (Heap.get?_push_of_some _ at0)⟩ ?_
      intro s3 c3 hm hc3 R3
      obtain ⟨g3, gg, dd, tk3, oo⟩ := s3
      obtain rfl : gg = s.gens := hm.gens
      obtain rfl : dd = s.drawn := hm.drawn
      obtain rfl : oo = s.os := hm.os
      refine (wpAny_pure ?_ : wpAny _ _ _ _ _ _)
      show wpAny _ _ (ret .none) _ _ _
      rw [ez] at hc3
      refine wpAny_pure ⟨rfl, g3, tk3, c3, rfl, R3, hc3, fun b o e => ?_⟩
      have lb := Heap.lt_size e
      refine hm.heap b o (fun z => ?_) (Heap.get?_push_of_some _ (Heap.get?_push_of_some _ e))
      simp only [List.mem_cons, List.not_mem_nil, or_false] at z
      rcases z with z | z
      · exact Nat.ne_of_lt lb z
      · exact Nat.ne_of_lt (Nat.lt_succ_of_lt lb) (z.trans sz)
    · match r2, hr2 with
      | .error e, hr2 => exact hr2
      | .ok (.ret x), hr2 =>
        obtain ⟨rfl, g, tk, c, rfl, R, hc, keep⟩ := hr2
        repeat any_goals first | assumption | wp_step
        exact done _ _ _ R hc keep
/-- sorted(x) of a set of ints, however many -/
theorem sorted_ints_set {a : Addr} {S : Int → Bool} {n : Nat} {Q : Value → Shared → Prop} (R : SetR w s.heap a S n) (nh : A.handled = none)
    (done : ∀ (s1 : Shared) (g : Heap) (out : Array Value) (ep : Nat) (ns : List Int), (∀ b o, s.heap.get? b = some o → s1.heap.get? b = some o) → s1.gens = s.gens → s1.os = s.os → (∀ b o, s1.heap.get? b = some o → g.get? b = some o) → ns.length ≤ sizeLine →
      g.get? s1.heap.objs.size = some (seqObj "list" out ep) → IntsAre out.toList ns → ns.Pairwise (· ≤ ·) → (∀ k, k ∈ ns ↔ S k = true) → Q (.ref s1.heap.objs.size) { s1 with heap := g }) :
    wpAny (model P w) A (call (.builtin "sorted") [.ref a]) Q E s := by
  obtain ⟨o, es, ep, t, ho, ex, ed, g, nd, mm, lb, fi, cn, ri, ll⟩ := R
  refine Calls.call_function_entry kind_sorted plain_sorted entry_sorted (args_sorted1 _) ?_
  rw [Builtin.«sorted»]
  refine wpAny_bind (m := checkCount "sorted" 1 1 _) (wpAny_pure ?_)
  refine wpAny_bind (collect_set nh ⟨o, ho, ex.1, ed⟩ fi lb ri ll fun s1 vs keep _ g1 o1 pm => ?_)
  have vi : IntsAre vs (vs.map Builtin.Re.reRawOf) := ints_of vs fun v hv => by
    obtain ⟨e, he, rfl⟩ := List.mem_map.mp (pm.mem_iff.mp hv)
    obtain ⟨k, tk, q, _⟩ := g e he
    exact ⟨k, tk, q⟩
  have pk : (vs.map Builtin.Re.reRawOf).Perm (es.toList.map keyOf) := by
    have z := pm.map Builtin.Re.reRawOf
    rwa [List.map_map] at z
  have vz : vs.length ≤ sizeLine := by
    rw [pm.length_eq, List.length_map, Array.length_toList]
    exact fits_of_scanBound lb
  refine wpAny_bind (wpAny_newList ?_ vz)
  have at0 : (s1.heap.push (seqObj "list" vs.toArray 0)).get? s1.heap.objs.size = some (seqObj "list" vs.toArray 0) := Heap.get?_push_size _ rfl
  refine wpAny_bind (wpAny_holding (wpAny_call_entry slot_list_sort ⟨_, at0, rfl⟩ entry_list_sort (list_sort_treeAny at0 vi vz fun out ns a1 a2 a3 => ⟨_, rfl, ?_⟩) (args_list_sort _)))
  obtain ⟨e, he⟩ := sortedHeap_at (out := out) at0
  exact wpAny_pure ⟨_, rfl, done s1 _ out e ns keep g1 o1 (fun b u hb => by
    have lt := Heap.lt_size hb
    rw [sortedHeap_old (Nat.ne_of_lt lt) (by rw [size_push']; exact Nat.lt_succ_of_lt lt)]
    exact Heap.get?_push_of_some _ hb) (by rw [a2.length_eq, List.length_map]; exact vz) he a1 a3 (fun k => by rw [(a2.trans pk).mem_iff, ← mm k])⟩
end
section
variable {X : Cx}
def rSetOf (w : World) (K : PySem.W.Frag) : List V → Hp → VK → Prop := fun vs H Q => ∃ (a : Addr) (ns : List Int), vs = [V.ref a] ∧ SqL K H a (ns.map V.int) ∧ ns.length ≤ 1000 ∧ ∀ (p : Addr) (c : Nat), H p = none → Q (.ref p) (upd H p (SetO w p (fun j => decide (j ∈ ns)) c))
theorem cr_setOf (hc : X.calm = true) : CallR X (.type "set") (rSetOf X.w X.K) := by
  intro pins s z H vs us Q I r h
  obtain ⟨a, ns, rfl, hs, hn, q⟩ := h
  rw [Vals.ref1 r]
  obtain ⟨its, rv, hl, _⟩ := I.list hs
  exact set_of_ints ns (I.ok.hd hc) hl.isList rv.ints (by unfold scanBound; omega) fun g tk c R _ k => ⟨.ref _, upd H s.heap.objs.size (SetO X.w s.heap.objs.size (fun j => decide (j ∈ ns)) c), I.laid (t' := tk) k (Nat.le_refl _) (setO_new R), rfl, q _ _ (I.hok.fresh (Nat.le_refl _))⟩
def rSrtSet (w : World) : List V → Hp → VK → Prop := fun vs H Q => ∃ (a : Addr) (S : Int → Bool) (n : Nat), vs = [V.ref a] ∧ H a = some (SetO w a S n) ∧ ∀ (ns : List Int) (p : Addr), ns.Pairwise (· ≤ ·) → (∀ k, k ∈ ns ↔ S k = true) → H p = none → Q (.ref p) (upd H p (.lst (ns.map V.int)))
theorem cr_srtSet (hc : X.calm = true) : CallR X (.builtin "sorted") (rSrtSet X.w) := by
  intro pins s z H vs us Q I r h
  obtain ⟨a, S, n, rfl, hs, q⟩ := h
  rw [Vals.ref1 r]
  refine sorted_ints_set (setO_get I hs) (I.ok.hd hc) fun s1 g out ep ns k1 g1 o1 k2 hz at_ i1 i2 i3 => ?_
  have I1 := I.call' (ch := []) o1 (Un.kept k1) (I.hok.kept k1) (by rw [g1]; exact I.bare) (fun _ z => nomatch z)
  exact ⟨.ref _, upd H s1.heap.objs.size (.lst (ns.map V.int)), I1.laid (t' := s1.toks) k2 (Nat.le_refl _) ⟨by rw [List.length_map]; exact hz, out.toList, ep, vals_of_ints i1, at_⟩, rfl, q ns _ i2 i3 (I1.hok.fresh (Nat.le_refl _))⟩
end
end Gen
set_option Elab.async false
set_option linter.all false
set_option maxRecDepth 100000
set_option maxHeartbeats 4000000
namespace My
open PySem PySem.Spec PyProof.Rows L2 Gen
section
variable {P : Program} {w : World} {K : PySem.W.Frag} {mg : Str → Option Value} {base : Heap} { cBadPool cBadPeople cBadCoin : Addr}
theorem sum_box : ∀ {ms : List Int}, (∀ m, m ∈ ms → 1 ≤ m ∧ m ≤ 1000000000) → 0 ≤ ms.sum ∧ ms.sum ≤ 1000000000 * ms.length
  | [], _ => ⟨Int.le_refl 0, by decide⟩
  | m :: ms, h => by
    have a := h m List.mem_cons_self
    have b := sum_box fun x hx => h x (List.mem_cons_of_mem _ hx)
    rw [List.sum_cons, List.length_cons]
    omega
def sp_l_tried (_ : PySem.W.Frag) : Sp := fun vs H Q _ => ∃ (h q a : Addr) (ns : List Int) (p : Int), vs = [.ref h, .ref a, .int p] ∧ HandAt H h q ∧ Row H a (ns.map V.int) ∧ ns.length ≤ 12 ∧ (∀ n, n ∈ ns → 1 ≤ n ∧ n ≤ 1000000000) ∧ 2 ≤ p ∧ p ≤ 5 ∧
  ∀ (cs : List Int) (l : Addr) (H' : Hp), (∀ c, c ∈ cs → 1 ≤ c) → HandAt H' h q → But h H H' → l ≠ h → H' l = some (.lst (cs.map V.int)) → Q (.ref l) H'
theorem len_l_tried {vs H Q E} (h : sp_l_tried K vs H Q E) : vs.length = 3 := by
  obtain ⟨_, _, _, _, _, rfl, _⟩ := h; rfl
theorem ok_l_tried {f : Addr} {fd : FuncData} (F : Fun K "_law_tried" "_law_tried" s_l_tried f fd) (T : Txt K mg cBadPool cBadPeople cBadCoin) : FnOk P w K mg base CX0 3 f fd ps_l_tried (sp_l_tried K) := by
  obtain ⟨f_l_next, fd_l_next, F_l_next, m_l_next, b_l_next⟩ := T.d_l_next
  have G_l_next : FnOk P w K mg base CX0 1 f_l_next fd_l_next ps_l_next (sp_l_next K) := ok_l_next F_l_next T
  obtain ⟨f_l_draw, fd_l_draw, F_l_draw, m_l_draw, b_l_draw⟩ := T.d_l_draw
  have G_l_draw : FnOk P w K mg base CX0 2 f_l_draw fd_l_draw ps_l_draw (sp_l_draw K) := ok_l_draw F_l_draw T
  refine F.ok (k := 2) sc_l_tried (fun vs H Q E h => len_l_tried h) (fun cdv A outer s H vs Q E hr h => ?_)
  refine ⟨_, (pss_cons (ps_set (i := 3) sc_l_tried.nd rfl (Or.inl rfl) (pe_callB cr_sortedE (by rfl) T.n_sorted (by decide +kernel) (pa_cons (pe_callTy call_list_of (by rfl) T.n_list (by decide +kernel) (pa_cons (pv 1) pa_nil)) pa_nil)))
      (pss_cons (ps_set (i := 4) sc_l_tried.nd rfl (Or.inl rfl) (pe_lst (pa_cons pe_int (pa_cons pe_int (pa_cons pe_int (pa_cons (pe_op op_pow pe_int pe_int) pa_nil))))))
      (pss_cons (ps_for PassesOwn.never rfl (pi_range1 (by rfl) T.n_range (pa_cons (pe_op op_add (pe_callB call_len_seq (by rfl) T.n_len (by decide +kernel) (pa_cons (pv 3) pa_nil)) pe_int) pa_nil)) (pg_name (i := 5) sc_l_tried.nd rfl (Or.inl rfl))
      (pss_cons (ps_set (i := 6) sc_l_tried.nd rfl (Or.inl rfl) (pe_callB (cr_sumE rfl) (by rfl) T.n_sum (by decide +kernel) (pa_cons (pe_slice sl_list (pv 3) po_none (po_some (pv 5))) pa_nil)))
      (pss_cons (ps_set (i := 7) sc_l_tried.nd rfl (Or.inl rfl) (pe_lst (pa_cons (pe_call G_l_next (hr.mono (by decide)) (by rfl) m_l_next F_l_next.kp b_l_next .nil pass0 (pa_cons (pv 6) (pa_cons (pv 2) pa_nil))) (pa_cons (pv 6) pa_nil))))
      (pss_cons (ps_if (pt_cmpR op_lt (pv 5) (pe_callB call_len_seq (by rfl) T.n_len (by decide +kernel) (pa_cons (pv 3) pa_nil)) (nomark _)) (pss_one (ps_set (i := 7) sc_l_tried.nd rfl (Or.inl rfl) (pe_op op_cat (pv 7) (pe_lst (pa_cons (pe_ix ix_list (pv 3) (pv 5) (fun _ _ => rfl)) (pa_cons (pe_op op_sub (pe_op op_mul (pe_op op_sub (pv 2) pe_int) (pe_op op_sub (pe_ix ix_list (pv 3) (pv 5) (fun _ _ => rfl)) pe_int)) (pv 6)) pa_nil)))))) pss_nil)
      (pss_one (ps_for PassesOwn.never rfl (pi_list (pv 7)) (pg_name (i := 8) sc_l_tried.nd rfl (Or.inl rfl))
      (pss_one (ps_set (i := 4) sc_l_tried.nd rfl (Or.inl rfl) (pe_op op_cat (pv 4) (pe_lst (pa_cons (pe_op op_sub (pv 8) pe_int) (pa_cons (pv 8) (pa_cons (pe_op op_add (pv 8) pe_int) pa_nil)))))))))))))
      (pss_cons (ps_expr (pe_bm PySem.F.plainAttrs_list PySem.F.slot_list_append PySem.F.type_list_append mt_append (pv 4) (pa_cons (pe_op op_add pe_int (pe_call G_l_draw (hr.mono (by decide)) (by rfl) m_l_draw F_l_draw.kp b_l_draw .nil pass0 (pa_cons (pv 0) (pa_cons (pe_op op_pow pe_int pe_int) pa_nil)))) pa_nil)))
      (pss_cons (ps_expr (pe_bm PySem.F.plainAttrs_list PySem.F.slot_list_append PySem.F.type_list_append mt_append (pv 4) (pa_cons (pe_op op_add pe_int (pe_call G_l_draw (hr.mono (by decide)) (by rfl) m_l_draw F_l_draw.kp b_l_draw .nil pass0 (pa_cons (pv 0) (pa_cons (pe_op op_add (pe_callB (cr_sumE rfl) (by rfl) T.n_sum (by decide +kernel) (pa_cons (pv 3) pa_nil)) pe_int) pa_nil)))) pa_nil)))
      (pss_cons (ps_if (pt_cmpR op_lt (pe_callB (cr_sumE rfl) (by rfl) T.n_sum (by decide +kernel) (pa_cons (pv 3) pa_nil)) pe_int (nomark _)) (pss_one (ps_set (i := 4) sc_l_tried.nd rfl (Or.inl rfl) (pe_op op_cat (pv 4) (pe_listRg rfl (by rfl) T.n_list (prg_2 (by rfl) T.n_range pe_int (pe_op op_add (pe_call G_l_next (hr.mono (by decide)) (by rfl) m_l_next F_l_next.kp b_l_next .nil pass0 (pa_cons (pe_callB (cr_sumE rfl) (by rfl) T.n_sum (by decide +kernel) (pa_cons (pv 3) pa_nil)) (pa_cons (pv 2) pa_nil))) pe_int)))))) pss_nil)
      (pss_one (ps_ret (pe_callB (cr_srtSet rfl) (by rfl) T.n_sorted (by decide +kernel) (pa_cons (pe_callTy (cr_setOf rfl) (by rfl) T.n_set (by decide +kernel) (pa_cons (pe_lc (own := [("_law_coin", 8)]) (g := gName 8) (tt := _) rfl sc_l_tried.nd (pi_list (pv 4)) (blkOk_by (N := nm_l_tried) (sc := defScope s_l_tried) (by decide +kernel)) (fun _ _ _ _ _ => (pg_name (i := 8) sc_l_tried.nd rfl (Or.inl rfl))) (fun _ _ _ _ _ => (pts_one (pt_cmpR op_le pe_int (pv 8) (nomark _)))) (fun _ _ _ _ _ => (pv 8))) pa_nil)) pa_nil)))))))))), ?_⟩
  obtain ⟨h, q, a, ns, p, rfl, hh, hr, hn, hb, p0, p5, k⟩ := h
  have e9 : (10 : Int) ^ Int.toNat 9 = 1000000000 := by decide
  simp only [tSeq, tAsg, tDrop, tRet, tRetN, tIfS, tNext, tTest, tB, tNot, tAnd, tOr, tChain, tIf, tAndV, tOrV, tNotV, tOp, tUn, tCB, tCons, tNil, tVar, tC, tCall, tCallS, gName, rI, rI0, rU, rEq, rNe, tTup, tLst, gSub, rSetL, rIxL, rIxT, L2.start, List.map_cons, List.map_nil, List.length_cons, List.length_nil, Nat.reduceAdd, Nat.reduceSub, List.replicate_succ, List.replicate_zero, List.getElem?_cons_zero, List.getElem?_cons_succ, List.set_cons_zero, List.set_cons_succ, Option.some.injEq, exists_eq_left', exists_eq_left, exists_and_left, V.int.injEq, V.bl.injEq, V.ref.injEq, V.str.injEq, List.cons.injEq, and_true, true_and, List.nil_append, List.cons_append, List.append_nil, reduceCtorEq, false_and, exists_false, or_false, false_or, and_false, Int.reduceNeg, decide_eq_true_eq, Bool.not_eq_true', decide_eq_false_iff_not, and_assoc, tYes, ↓reduceIte, wipe, Bool.false_eq_true, Bool.true_eq_false, cxOf, false_implies, true_implies, implies_true, forall_const, e9, rSortedE, rSetOf, rSrtSet, sp_l_next, spDraw]
  refine ⟨_, hr.sq, fun l hl => ⟨ns, .inl (SqL.of upd_same), fun ks c k1 k2 hc => ⟨⟨by decide, by decide, by decide⟩, by decide, fun B hB => ?_⟩⟩⟩
  have s1 := (Same.new (o := HO.lst (ns.map V.int)) hl).trans (Same.new (o := HO.lst (ks.map V.int)) hc)
  have ecc : upd (upd H l (HO.lst (ns.map V.int))) c (HO.lst (ks.map V.int)) c = some (HO.lst (ks.map V.int)) := upd_same
  have nc : c ≠ h := (hh.same (Same.new (o := HO.lst (ns.map V.int)) hl)).off hc
  generalize upd (upd H l (HO.lst (ns.map V.int))) c (HO.lst (ks.map V.int)) = Hc at s1 ecc hB ⊢
  have hhc := hh.same s1
  have s4 := Same.new (o := HO.lst [V.int 1, V.int 2, V.int 3, V.int 1000000000]) hB
  have ec := s4 _ _ ecc
  have eB : upd Hc B (HO.lst [V.int 1, V.int 2, V.int 3, V.int 1000000000]) B = some (HO.lst (([1, 2, 3, 1000000000] : List Int).map V.int)) := upd_same
  have hh4 := hhc.same s4
  generalize upd Hc B (HO.lst [V.int 1, V.int 2, V.int 3, V.int 1000000000]) = H3 at s4 ec eB hh4 ⊢
  have kl : ks.length ≤ 12 := by rw [k1.length_eq]; exact hn
  refine ⟨_, rfl, c, rfl, _, .inl (SqL.of ec), _, _, rfl, rfl, _, rfl, by rw [List.length_map]; omega, by rw [List.length_map]; omega, for_range (lo := 0) (fun i z h' => ∃ (ts : List Int) (B' : Addr) (v5 v6 v7 v8 : Option V), z = [some (.ref h), some (.ref a), some (.int p), some (.ref c), some (.ref B'), v5, v6, v7, v8] ∧ HandAt h' h q ∧ Same H3 h' ∧ h' B' = some (.lst (ts.map V.int)) ∧ Hc B' = none ∧ ts.length ≤ 4 + 12 * i)
    ⟨_, B, none, none, none, none, rfl, hh4, Same.refl H3, eB, hB, by decide⟩ ?_ ?_⟩
  · rintro i z h' hi ⟨ts, B', v5, v6, v7, v8, rfl, hh5, s5, eB5, nB5, tl⟩
    rw [List.length_map] at hi
    have hi2 : i < ks.length + 1 := by omega
    have ec5 := s5 _ _ ec
    simp only [tSeq, tAsg, tDrop, tRet, tRetN, tIfS, tNext, tTest, tB, tNot, tAnd, tOr, tChain, tIf, tAndV, tOrV, tNotV, tOp, tUn, tCB, tCons, tNil, tVar, tC, tCall, tCallS, gName, rI, rI0, rU, rEq, rNe, tTup, tLst, gSub, rSetL, rIxL, rIxT, L2.start, List.map_cons, List.map_nil, List.length_cons, List.length_nil, Nat.reduceAdd, Nat.reduceSub, List.replicate_succ, List.replicate_zero, List.getElem?_cons_zero, List.getElem?_cons_succ, List.set_cons_zero, List.set_cons_succ, Option.some.injEq, exists_eq_left', exists_eq_left, exists_and_left, V.int.injEq, V.bl.injEq, V.ref.injEq, V.str.injEq, List.cons.injEq, and_true, true_and, List.nil_append, List.cons_append, List.append_nil, reduceCtorEq, false_and, exists_false, or_false, false_or, and_false, Int.reduceNeg, decide_eq_true_eq, Bool.not_eq_true', decide_eq_false_iff_not, and_assoc, tYes, ↓reduceIte, wipe, Bool.false_eq_true, Bool.true_eq_false, cxOf, false_implies, true_implies, implies_true, forall_const, rSumE, sp_l_next]
    have near : ∀ (D : Ends) (Hx : Hp) (N : Addr) (cs : List Int) (r : V), Hx N = some (.lst (cs.map V.int)) → cs.length ≤ 4 → Same h' Hx →
        (∀ z hz, (∃ (ts : List Int) (B' : Addr) (v5 v6 v7 v8 : Option V), z = [some (.ref h), some (.ref a), some (.int p), some (.ref c), some (.ref B'), v5, v6, v7, v8] ∧ HandAt hz h q ∧ Same H3 hz ∧ hz B' = some (.lst (ts.map V.int)) ∧ Hc B' = none ∧ ts.length ≤ 4 + 12 * (i + 1)) → D.nx z hz) →
        tFor (iList K (tVar 7)) (gName 8) (tAsg (tOp rCat (tVar 4) (tLst (tCons (tOp (rI0 fun i j => V.int (i - j)) (tVar 8) (tC (V.int 1))) (tCons (tVar 8) (tCons (tOp (rI0 fun i j => V.int (i + j)) (tVar 8) (tC (V.int 1))) tNil))))) (gName 4)) D
          [some (.ref h), some (.ref a), some (.int p), some (.ref c), some (.ref B'), some (.int (0 + (i : Int))), some r, some (.ref N), v8] Hx := by
      intro D Hx N cs r eN cl sx done
      refine ⟨_, rfl, N, rfl, ⟨_, SqL.of eN⟩, for_list (K := K) (a := N) (xs := cs.map V.int) (fun j z hz => ∃ (us : List Int) (C : Addr) (w8 : Option V), z = [some (.ref h), some (.ref a), some (.int p), some (.ref c), some (.ref C), some (.int (0 + (i : Int))), some r, some (.ref N), w8] ∧ Same Hx hz ∧ hz C = some (.lst (us.map V.int)) ∧ Hc C = none ∧ us.length ≤ 4 + 12 * i + 3 * j)
        ⟨ts, B', v8, rfl, Same.refl Hx, sx _ _ eB5, nB5, by omega⟩ (fun j z hz _ ⟨us, C, w8, _, sz, _⟩ => SqL.of (sz _ _ eN)) ?_ ?_⟩
      · rintro j y z hz hj ⟨us, C, w8, rfl, sz, eC, nC, ul⟩
        obtain ⟨g, hg, rfl⟩ := nat_map hj
        have jl := (List.getElem?_eq_some_iff.mp hg).1
        simp only [tSeq, tAsg, tDrop, tRet, tRetN, tIfS, tNext, tTest, tB, tNot, tAnd, tOr, tChain, tIf, tAndV, tOrV, tNotV, tOp, tUn, tCB, tCons, tNil, tVar, tC, tCall, tCallS, gName, rI, rI0, rU, rEq, rNe, tTup, tLst, gSub, rSetL, rIxL, rIxT, L2.start, List.map_cons, List.map_nil, List.length_cons, List.length_nil, Nat.reduceAdd, Nat.reduceSub, List.replicate_succ, List.replicate_zero, List.getElem?_cons_zero, List.getElem?_cons_succ, List.set_cons_zero, List.set_cons_succ, Option.some.injEq, exists_eq_left', exists_eq_left, exists_and_left, V.int.injEq, V.bl.injEq, V.ref.injEq, V.str.injEq, List.cons.injEq, and_true, true_and, List.nil_append, List.cons_append, List.append_nil, reduceCtorEq, false_and, exists_false, or_false, false_or, and_false, Int.reduceNeg, decide_eq_true_eq, Bool.not_eq_true', decide_eq_false_iff_not, and_assoc, tYes, ↓reduceIte, wipe, Bool.false_eq_true, Bool.true_eq_false, cxOf, false_implies, true_implies, implies_true, forall_const]
        refine ⟨by decide, fun p1 hp1 => ?_⟩
        have t1 := Same.new (o := HO.lst [V.int (g - 1), V.int g, V.int (g + 1)]) hp1
        refine ⟨C, p1, _, _, rfl, rfl, t1 _ _ eC, upd_same, ?_, fun p2 hp2 => ?_⟩
        · rw [List.length_map]
          exact Nat.le_of_lt (Nat.lt_of_le_of_lt (show us.length + 3 ≤ 300 by omega) (by decide))
        · have t2 := sz.trans (t1.trans (Same.new (o := HO.lst (us.map V.int ++ [V.int (g - 1), V.int g, V.int (g + 1)])) hp2))
          refine ⟨us ++ [g - 1, g, g + 1], p2, rfl, t2, ?_, Same.free (s4.trans (s5.trans (sx.trans (sz.trans t1)))) hp2, by rw [List.length_append]; show us.length + 3 ≤ _; omega⟩
          rw [upd_same, List.map_append]
          rfl
      · rintro z hz ⟨us, C, w8, rfl, sz, eC, nC, ul⟩
        rw [List.length_map] at ul
        exact done _ _ ⟨us, C, _, _, _, _, rfl, (hh5.same sx).same sz, s5.trans (sx.trans sz), eC, nC, by omega⟩
    refine ⟨_, rfl, _, rfl, _, rfl, c, _, rfl, SqL.of ec5, fun q1 hq1 => ?_⟩
    have t1 := Same.new (o := HO.lst (cutV (ks.map V.int) none (some (0 + (i : Int))))) hq1
    have eq1 : upd h' q1 (HO.lst (cutV (ks.map V.int) none (some (0 + (i : Int))))) q1 = some (.lst ((ks.take i).map V.int)) := by
      rw [upd_same, Int.zero_add, cut_to]
    generalize upd h' q1 (HO.lst (cutV (ks.map V.int) none (some (0 + (i : Int))))) = Ha at t1 eq1 ⊢
    refine ⟨q1, rfl, ks.take i, .inl (SqL.of eq1), p0, p5, by decide, fun q2 hq2 => ?_⟩
    have t2 := t1.trans (Same.new (o := HO.lst [V.int (room p (ks.take i).sum), V.int (ks.take i).sum]) hq2)
    have e2 : upd Ha q2 (HO.lst [V.int (room p (ks.take i).sum), V.int (ks.take i).sum]) q2 = some (.lst (([room p (ks.take i).sum, (ks.take i).sum] : List Int).map V.int)) := upd_same
    have ec6 := t2 _ _ ec5
    generalize upd Ha q2 (HO.lst [V.int (room p (ks.take i).sum), V.int (ks.take i).sum]) = Hb at t2 e2 ec6 ⊢
    refine ⟨_, .inl (SqL.of ec6), ?_⟩
    rw [List.length_map]
    split
    · rename_i lt
      have il : i < ks.length := by omega
      have ka : atI (ks.map V.int) (0 + (i : Int)) = some (.int ks[i]) := by
        rw [Int.zero_add]
        exact atI_nat (by rw [List.getElem?_map, List.getElem?_eq_getElem il]; rfl)
      refine ⟨_, SqL.of ec6, _, ka, _, SqL.of ec6, _, ka, _, rfl, cml (by omega) (by omega), by decide, fun q3 hq3 => ?_⟩
      have t3 := Same.new (o := HO.lst [V.int ks[i], V.int ((p - 1) * (ks[i] - 1) - (ks.take i).sum)]) hq3
      refine ⟨q2, q3, _, _, rfl, rfl, t3 _ _ e2, upd_same, by show 4 ≤ _; decide, fun q4 hq4 => near _ _ q4 [room p (ks.take i).sum, (ks.take i).sum, ks[i], (p - 1) * (ks[i] - 1) - (ks.take i).sum] _ upd_same (by show 4 ≤ 4; omega) (t2.trans (t3.trans (Same.new hq4))) fun z hz w => w⟩
    · exact near _ _ q2 [room p (ks.take i).sum, (ks.take i).sum] _ e2 (by show 2 ≤ 4; omega) t2 fun z hz w => w
  · rintro z h' ⟨ts, B', v5, v6, v7, v8, rfl, hh5, s5, eB5, nB5, tl⟩
    rw [List.length_map] at tl
    have tl2 : ts.length ≤ 160 := by omega
    have ec5 := s5 _ _ ec
    simp only [tSeq, tAsg, tDrop, tRet, tRetN, tIfS, tNext, tTest, tB, tNot, tAnd, tOr, tChain, tIf, tAndV, tOrV, tNotV, tOp, tUn, tCB, tCons, tNil, tVar, tC, tCall, tCallS, gName, rI, rI0, rU, rEq, rNe, tTup, tLst, gSub, rSetL, rIxL, rIxT, L2.start, List.map_cons, List.map_nil, List.length_cons, List.length_nil, Nat.reduceAdd, Nat.reduceSub, List.replicate_succ, List.replicate_zero, List.getElem?_cons_zero, List.getElem?_cons_succ, List.set_cons_zero, List.set_cons_succ, Option.some.injEq, exists_eq_left', exists_eq_left, exists_and_left, V.int.injEq, V.bl.injEq, V.ref.injEq, V.str.injEq, List.cons.injEq, and_true, true_and, List.nil_append, List.cons_append, List.append_nil, reduceCtorEq, false_and, exists_false, or_false, false_or, and_false, Int.reduceNeg, decide_eq_true_eq, Bool.not_eq_true', decide_eq_false_iff_not, and_assoc, tYes, ↓reduceIte, wipe, Bool.false_eq_true, Bool.true_eq_false, cxOf, false_implies, true_implies, implies_true, forall_const, e9, rSumE, spDraw, sp_l_next, tBM, rAppend]
    have fin : ∀ (Hx : Hp) (C : Addr) (us : List Int) (v5 v6 v7 v8 : Option V), Hx C = some (.lst (us.map V.int)) → us.length ≤ 300 → HandAt Hx h q → But h H Hx →
        tLc (iList K (tVar 4)) (gName 8) (tTest (tOp (rI0 fun i j => V.bl (decide (i ≤ j))) (tC (V.int 1)) (tVar 8))) (tVar 8) [8] [some (.ref h), some (.ref a), some (.int p), some (.ref c), some (.ref C), v5, v6, v7, v8] Hx
          fun x H1 => rSetOf w K [x] H1 fun x H1 => rSrtSet w [x] H1 Q := by
      intro Hx C us v5 v6 v7 v8 eC ul hx bx
      refine ⟨_, rfl, C, rfl, ⟨_, SqL.of eC⟩, fun D2 hD2 => lc_list (K := K) (a := C) (xs := us.map V.int) (fun i h' => ∃ ws : List Int, Same Hx h' ∧ h' D2 = some (.lst (ws.map V.int)) ∧ ws.length ≤ i ∧ ∀ m, m ∈ ws → 1 ≤ m)
        ⟨[], Same.new hD2, upd_same, Nat.le_refl 0, fun m hm => absurd hm List.not_mem_nil⟩ (fun i h' _ ⟨_, s, _⟩ => SqL.of (s _ _ eC)) ?_ ?_⟩
      · rintro i y h' hi ⟨ws, s, eW, wl, wb⟩
        obtain ⟨g, hg, rfl⟩ := nat_map hi
        have il := (List.getElem?_eq_some_iff.mp hg).1
        simp only [tSeq, tAsg, tDrop, tRet, tRetN, tIfS, tNext, tTest, tB, tNot, tAnd, tOr, tChain, tIf, tAndV, tOrV, tNotV, tOp, tUn, tCB, tCons, tNil, tVar, tC, tCall, tCallS, gName, rI, rI0, rU, rEq, rNe, tTup, tLst, gSub, rSetL, rIxL, rIxT, L2.start, List.map_cons, List.map_nil, List.length_cons, List.length_nil, Nat.reduceAdd, Nat.reduceSub, List.replicate_succ, List.replicate_zero, List.getElem?_cons_zero, List.getElem?_cons_succ, List.set_cons_zero, List.set_cons_succ, Option.some.injEq, exists_eq_left', exists_eq_left, exists_and_left, V.int.injEq, V.bl.injEq, V.ref.injEq, V.str.injEq, List.cons.injEq, and_true, true_and, List.nil_append, List.cons_append, List.append_nil, reduceCtorEq, false_and, exists_false, or_false, false_or, and_false, Int.reduceNeg, decide_eq_true_eq, Bool.not_eq_true', decide_eq_false_iff_not, and_assoc, tYes, ↓reduceIte, wipe, Bool.false_eq_true, Bool.true_eq_false, cxOf, false_implies, true_implies, implies_true, forall_const]
        split
        · rename_i g1
          refine ⟨_, eW, by rw [List.length_map]; exact small1000 (by omega), fun b o z => ?_, ws ++ [g], ?_, by rw [List.length_append]; show ws.length + 1 ≤ _; omega, fun m hm => ?_⟩
          · rw [upd_ne (ne_of_none z hD2)]
            exact s b o z
          · rw [upd_same, List.map_append]
            rfl
          · rcases List.mem_append.mp hm with hm | hm
            · exact wb m hm
            · rw [List.mem_singleton.mp hm]
              exact g1
        · exact ⟨s, ws, eW, by omega, wb⟩
      · rintro h' ⟨ws, s, eW, wl, wb⟩
        rw [List.length_map] at wl
        refine ⟨D2, ws, rfl, SqL.of eW, by omega, fun p1 n1 hp1 => ⟨p1, _, _, rfl, upd_same, fun ms p2 _ mi hp2 => ?_⟩⟩
        have t := s.trans ((Same.new (o := SetO w p1 (fun j => decide (j ∈ ws)) n1) hp1).trans (Same.new (o := HO.lst (ms.map V.int)) hp2))
        refine k ms p2 _ (fun m hm => wb m (of_decide_eq_true ((mi m).mp hm))) (hx.same t) (bx.trans (But.of t)) ?_ upd_same
        exact ((hx.same s).same (Same.new (o := SetO w p1 (fun j => decide (j ∈ ws)) n1) hp1)).off hp2
    have kb : ∀ m, m ∈ ks → 1 ≤ m ∧ m ≤ 1000000000 := fun m hm => hb m (k1.mem_iff.mp hm)
    have ks0 := sum_box kb
    have ks1 : (ks.length : Int) ≤ 12 := by omega
    have nBh := hhc.off nB5
    have nBq := handOffq hhc nB5
    have nBc : B' ≠ c := fun e => by rw [e, ecc] at nB5; cases nB5
    have fB : H B' = none := Same.free s1 nB5
    have bh : But h H h' := But.of (s1.trans (s4.trans s5))
    refine ⟨.inl ⟨rfl, _, SqL.of eB5⟩, ⟨by decide, by decide, by decide⟩, q, hh5, by decide, by decide, fun d H5 d0 d1 hh6 b6 => ⟨_, b6 _ _ eB5 nBh, by rw [List.length_map]; exact small1000 (by omega), ?_⟩⟩
    have eB6 : upd H5 B' (HO.lst (ts.map V.int ++ [V.int (1 + d)])) B' = some (.lst ((ts ++ [1 + d]).map V.int)) := by
      rw [upd_same, List.map_append]
      rfl
    have ec6 : upd H5 B' (HO.lst (ts.map V.int ++ [V.int (1 + d)])) c = some (.lst (ks.map V.int)) := by
      rw [upd_ne (Ne.symm nBc)]
      exact b6 _ _ ec5 nc
    have hh7 := handPut (o := HO.lst (ts.map V.int ++ [V.int (1 + d)])) hh6 nBh nBq
    have bu6 : But h H (upd H5 B' (HO.lst (ts.map V.int ++ [V.int (1 + d)]))) := butAt (bh.trans b6) fB
    generalize upd H5 B' (HO.lst (ts.map V.int ++ [V.int (1 + d)])) = H6 at eB6 ec6 hh7 bu6 ⊢
    refine ⟨.inl ⟨rfl, _, SqL.of eB6⟩, ks, .inl (SqL.of ec6), q, hh7, by omega, by omega, fun d2 H7 d20 d21 hh8 b8 => ⟨_, b8 _ _ eB6 nBh, by rw [List.length_map, List.length_append]; exact small1000 (by show ts.length + 1 ≤ _; omega), ?_⟩⟩
    have eB8 : upd H7 B' (HO.lst ((ts ++ [1 + d]).map V.int ++ [V.int (1 + d2)])) B' = some (.lst ((ts ++ [1 + d] ++ [1 + d2]).map V.int)) := by
      rw [upd_same, List.map_append (l₁ := ts ++ [1 + d])]
      rfl
    have ec8 : upd H7 B' (HO.lst ((ts ++ [1 + d]).map V.int ++ [V.int (1 + d2)])) c = some (.lst (ks.map V.int)) := by
      rw [upd_ne (Ne.symm nBc)]
      exact b8 _ _ ec6 nc
    have hh9 := handPut (o := HO.lst ((ts ++ [1 + d]).map V.int ++ [V.int (1 + d2)])) hh8 nBh nBq
    have bu8 : But h H (upd H7 B' (HO.lst ((ts ++ [1 + d]).map V.int ++ [V.int (1 + d2)]))) := butAt (bu6.trans b8) fB
    generalize upd H7 B' (HO.lst ((ts ++ [1 + d]).map V.int ++ [V.int (1 + d2)])) = H8 at eB8 ec8 hh9 bu8 ⊢
    have ul : (ts ++ [1 + d] ++ [1 + d2]).length ≤ 162 := by
      rw [List.length_append, List.length_append]
      show ts.length + 1 + 1 ≤ _
      omega
    generalize ts ++ [1 + d] ++ [1 + d2] = us at eB8 ul
    refine ⟨ks, .inl (SqL.of ec8), ?_⟩
    split
    · rename_i lt
      simp only [tSeq, tAsg, tDrop, tRet, tRetN, tIfS, tNext, tTest, tB, tNot, tAnd, tOr, tChain, tIf, tAndV, tOrV, tNotV, tOp, tUn, tCB, tCons, tNil, tVar, tC, tCall, tCallS, gName, rI, rI0, rU, rEq, rNe, tTup, tLst, gSub, rSetL, rIxL, rIxT, L2.start, List.map_cons, List.map_nil, List.length_cons, List.length_nil, Nat.reduceAdd, Nat.reduceSub, List.replicate_succ, List.replicate_zero, List.getElem?_cons_zero, List.getElem?_cons_succ, List.set_cons_zero, List.set_cons_succ, Option.some.injEq, exists_eq_left', exists_eq_left, exists_and_left, V.int.injEq, V.bl.injEq, V.ref.injEq, V.str.injEq, List.cons.injEq, and_true, true_and, List.nil_append, List.cons_append, List.append_nil, reduceCtorEq, false_and, exists_false, or_false, false_or, and_false, Int.reduceNeg, decide_eq_true_eq, Bool.not_eq_true', decide_eq_false_iff_not, and_assoc, tYes, ↓reduceIte, wipe, Bool.false_eq_true, Bool.true_eq_false, cxOf, false_implies, true_implies, implies_true, forall_const, tLstRg, tRg2, rSumE, sp_l_next]
      have c1 := room_pos p0 ks0.1
      have c2 : room p ks.sum ≤ ks.sum + 1 := by
        have := Int.ediv_le_self (p - 1) ks0.1
        unfold room
        omega
      refine ⟨ks, .inl (SqL.of ec8), p0, p5, RgOk.of_le (by omega) (by omega) (by omega) (by omega), fun q1 hq1 => ?_⟩
      have er : rgV 1 (room p ks.sum + 4) = ((List.range (room p ks.sum + 4 - 1).toNat).map fun i : Nat => 1 + (i : Int)).map V.int := by
        unfold rgV
        rw [List.map_map]
        rfl
      rw [er]
      have rl : ((List.range (room p ks.sum + 4 - 1).toNat).map fun i : Nat => 1 + (i : Int)).length ≤ 50 := by
        rw [List.length_map, List.length_range]
        omega
      generalize (List.range (room p ks.sum + 4 - 1).toNat).map (fun i : Nat => 1 + (i : Int)) = rs at rl ⊢
      have t1 := Same.new (o := HO.lst (rs.map V.int)) hq1
      refine ⟨B', q1, _, _, rfl, rfl, t1 _ _ eB8, upd_same, ?_, fun q2 hq2 => ?_⟩
      · rw [List.length_map, List.length_map]
        exact Nat.le_of_lt (Nat.lt_of_le_of_lt (show us.length + rs.length ≤ 300 by omega) (by decide))
      · have t2 := t1.trans (Same.new (o := HO.lst (us.map V.int ++ rs.map V.int)) hq2)
        exact fin _ q2 (us ++ rs) _ _ _ _ (by rw [upd_same, List.map_append]) (by rw [List.length_append]; omega) (hh9.same t2) (bu8.trans (But.of t2))
    · exact fin H8 B' us _ _ _ _ eB8 (by omega) hh9 bu8
end
end My
set_option Elab.async false
set_option linter.all false
set_option maxRecDepth 100000
set_option maxHeartbeats 4000000
namespace My
open PySem PySem.Spec PyProof.Rows L2 Gen
section
variable {P : Program} {w : World} {K : PySem.W.Frag} {mg : Str → Option Value} {base : Heap} { cBadPool cBadPeople cBadCoin : Addr}
theorem fits_uniq {p : Int} {ms : List Int} {r r' : Option (Int × Int)} (a : Fits p ms r) (b : Fits p ms r') : r = r' := by
  cases e : ab p ms ms.length with
  | nil => rw [a.1 e, b.1 e]
  | cons j l =>
    obtain ⟨l1, ⟨i1, h1, e1⟩, m1, q1⟩ := a.2 j l e
    obtain ⟨l2, ⟨i2, h2, e2⟩, m2, q2⟩ := b.2 j l e
    have x := m1 i2 h2
    have y := m2 i1 h1
    have z : l1 = l2 := by omega
    subst z
    rw [q1, q2]
theorem fits_low {p : Int} {ms : List Int} {l u : Int} (hp : 2 ≤ p) (mb : ∀ x, x ∈ ms → 1 ≤ x) (a : Fits p ms (some (l, u))) : 1 ≤ l ∧ l ≤ u := by
  cases e : ab p ms ms.length with
  | nil =>
    have z := a.1 e
    cases z
    exact ⟨Int.le_refl 1, room_pos hp (sum_nonneg mb)⟩
  | cons j k =>
    obtain ⟨l1, ⟨i1, h1, e1⟩, m1, q1⟩ := a.2 j k e
    split at q1
    · cases q1
      obtain ⟨n, rfl, nl, g⟩ := ab_mem h1
      rw [Int.toNat_natCast] at e1
      refine ⟨?_, by assumption⟩
      have z : ¬ (p - 1) * (ms.getD n 0 - 1) ≤ (ms.take n).sum := fun h => Int.not_le.mpr g ((room_iff hp).mpr h)
      omega
    · cases q1
theorem cat_serves {Hx : Hp} {l1 l2 : Addr} {ns : List Int} {c p : Int} {Q : VK} (e1 : Hx l1 = some (.lst (ns.map V.int))) (e2 : Hx l2 = some (.lst [V.int c])) (nl : ns.length ≤ 12) (p0 : 2 ≤ p) (p5 : p ≤ 5)
    (k : ∀ (zs : List Int) (H' : Hp), Same Hx H' → zs.Perm (ns ++ [c]) → zs.Pairwise (· ≤ ·) → Q (.bl (srvB p zs)) H') : rCat (V.ref l1) (V.ref l2) Hx fun x H1 => sp_l_serves K [x, V.int p] H1 Q E0 := by
  refine ⟨l1, l2, _, _, rfl, rfl, e1, e2, ?_, fun l3 hl3 => ?_⟩
  · rw [List.length_map]
    exact Nat.le_of_lt (Nat.lt_of_le_of_lt (show ns.length + 1 ≤ 300 by omega) (by decide))
  · exact serves_call (ns := ns ++ [c]) (.inr (by rw [upd_same, List.map_append]; rfl)) p0 p5 fun zs H4 s4 z1 z2 => k zs H4 ((Same.new hl3).trans s4) z1 z2
def sp_l_stretch_right (_ : PySem.W.Frag) : Sp := fun vs H Q _ => ∃ (h q a : Addr) (ns : List Int) (p : Int), vs = [.ref h, .ref a, .int p] ∧ HandAt H h q ∧ a ≠ h ∧ PoolOk H (.ref a) a ns ∧ 2 ≤ p ∧ p ≤ 5 ∧ ∀ H', HandAt H' h q → But h H H' → Q (.bl true) H'
theorem len_l_stretch_right {vs H Q E} (h : sp_l_stretch_right K vs H Q E) : vs.length = 3 := by
  obtain ⟨_, _, _, _, _, rfl, _⟩ := h; rfl
theorem ok_l_stretch_right {f : Addr} {fd : FuncData} (F : Fun K "_law_stretch_right" "_law_stretch_right" s_l_stretch_right f fd) (T : Txt K mg cBadPool cBadPeople cBadCoin) : FnOk P w K mg base CX0 6 f fd ps_l_stretch_right (sp_l_stretch_right K) := by
  obtain ⟨f_fitting_coins, fd_fitting_coins, F_fitting_coins, m_fitting_coins, b_fitting_coins⟩ := T.d_fitting_coins
  have G_fitting_coins : FnOk P w K mg base (L2.CX P w) 4 f_fitting_coins fd_fitting_coins ps_fitting_coins (sp_fitting_coins K cBadPool cBadPeople) := ok_fitting_coins F_fitting_coins T
  obtain ⟨f_l_tried, fd_l_tried, F_l_tried, m_l_tried, b_l_tried⟩ := T.d_l_tried
  have G_l_tried : FnOk P w K mg base CX0 3 f_l_tried fd_l_tried ps_l_tried (sp_l_tried K) := ok_l_tried F_l_tried T
  obtain ⟨f_next_coin, fd_next_coin, F_next_coin, m_next_coin, b_next_coin⟩ := T.d_next_coin
  have G_next_coin : FnOk P w K mg base (L2.CX P w) 5 f_next_coin fd_next_coin ps_next_coin (sp_next_coin K cBadPool cBadPeople) := ok_next_coin F_next_coin T
  obtain ⟨f_l_serves, fd_l_serves, F_l_serves, m_l_serves, b_l_serves⟩ := T.d_l_serves
  have G_l_serves : FnOk P w K mg base CX0 2 f_l_serves fd_l_serves ps_l_serves (sp_l_serves K) := ok_l_serves F_l_serves T
  obtain ⟨f_may_put, fd_may_put, F_may_put, m_may_put, b_may_put⟩ := T.d_may_put
  have G_may_put : FnOk P w K mg base (L2.CX P w) 4 f_may_put fd_may_put ps_may_put (sp_may_put K cBadPool cBadCoin cBadPeople) := ok_may_put F_may_put T
  obtain ⟨f_l_is_whole, fd_l_is_whole, F_l_is_whole, m_l_is_whole, b_l_is_whole⟩ := T.d_l_is_whole
  have G_l_is_whole : FnOk P w K mg base CX0 1 f_l_is_whole fd_l_is_whole ps_l_is_whole (sp_l_is_whole K) := ok_l_is_whole F_l_is_whole T
  refine F.ok (k := 5) sc_l_stretch_right (fun vs H Q E h => len_l_stretch_right h) (fun cdv A outer s H vs Q E hr h => ?_)
  refine ⟨_, (pss_cons (ps_set (i := 3) sc_l_stretch_right.nd rfl (Or.inl rfl) (pe_call G_fitting_coins (hr.mono (by decide)) (by rfl) m_fitting_coins F_fitting_coins.kp b_fitting_coins .nil passL (pa_cons (pv 1) (pa_cons (pv 2) pa_nil))))
      (pss_cons (ps_if (pt_cmpR op_notN (pv 3) pe_non (nomark _)) (pss_cons (ps_if (PW.pt (pw_or (pt_not (pt_val (pe_callB call_isi (by rfl) T.n_isinstance (by decide +kernel) (pa_cons (pv 3) (pa_cons (pe_bltn (v := .ty "tuple") (by rfl) T.n_tuple (by decide +kernel) rfl) pa_nil))))) (pw_or (pt_cmpR op_ne (pe_callB call_len_seq (by rfl) T.n_len (by decide +kernel) (pa_cons (pv 3) pa_nil)) pe_int (nomark _)) (pw_or (pt_not (pt_val (pe_call G_l_is_whole (hr.mono (by decide)) (by rfl) m_l_is_whole F_l_is_whole.kp b_l_is_whole .nil pass0 (pa_cons (pe_ix ix_tup (pv 3) pe_int (fun _ _ => rfl)) pa_nil)))) (pw_or1 (pt_not (pt_val (pe_call G_l_is_whole (hr.mono (by decide)) (by rfl) m_l_is_whole F_l_is_whole.kp b_l_is_whole .nil pass0 (pa_cons (pe_ix ix_tup (pv 3) pe_int (fun _ _ => rfl)) pa_nil))))))))) (pss_one (ps_ret pe_bl)) pss_nil)
      (pss_cons (ps_if (pt_not (pt_chain op_le op_le pe_int (pe_ix ix_tup (pv 3) pe_int (fun _ _ => rfl)) (pe_ix ix_tup (pv 3) pe_int (fun _ _ => rfl)))) (pss_one (ps_ret pe_bl)) pss_nil)
      (pss_one (ps_if (PW.pt (pw_or (pt_not (pt_val (pe_call G_l_serves (hr.mono (by decide)) (by rfl) m_l_serves F_l_serves.kp b_l_serves .nil pass0 (pa_cons (pe_op op_cat (pe_callTy call_list_of (by rfl) T.n_list (by decide +kernel) (pa_cons (pv 1) pa_nil)) (pe_lst (pa_cons (pe_ix ix_tup (pv 3) pe_int (fun _ _ => rfl)) pa_nil))) (pa_cons (pv 2) pa_nil))))) (pw_or1 (pt_not (pt_val (pe_call G_l_serves (hr.mono (by decide)) (by rfl) m_l_serves F_l_serves.kp b_l_serves .nil pass0 (pa_cons (pe_op op_cat (pe_callTy call_list_of (by rfl) T.n_list (by decide +kernel) (pa_cons (pv 1) pa_nil)) (pe_lst (pa_cons (pe_ix ix_tup (pv 3) pe_int (fun _ _ => rfl)) pa_nil))) (pa_cons (pv 2) pa_nil)))))))) (pss_one (ps_ret pe_bl)) pss_nil)))) pss_nil)
      (pss_cons (ps_if (pt_cmpR op_ne (pe_call G_next_coin (hr.mono (by decide)) (by rfl) m_next_coin F_next_coin.kp b_next_coin .nil passL (pa_cons (pv 1) (pa_cons (pv 2) pa_nil))) (pe_ifExp (pt_cmpR op_notN (pv 3) pe_non (nomark _)) (pe_ix ix_tup (pv 3) pe_int (fun _ _ => rfl)) pe_non) (nomark _)) (pss_one (ps_ret pe_bl)) pss_nil)
      (pss_cons (ps_for PassesOwn.never rfl (pi_list (pe_call G_l_tried (hr.mono (by decide)) (by rfl) m_l_tried F_l_tried.kp b_l_tried .nil pass0 (pa_cons (pv 0) (pa_cons (pv 1) (pa_cons (pv 2) pa_nil))))) (pg_name (i := 4) sc_l_stretch_right.nd rfl (Or.inl rfl))
      (pss_cons (ps_set (i := 5) sc_l_stretch_right.nd rfl (Or.inl rfl) (pe_call G_l_serves (hr.mono (by decide)) (by rfl) m_l_serves F_l_serves.kp b_l_serves .nil pass0 (pa_cons (pe_op op_cat (pe_callTy call_list_of (by rfl) T.n_list (by decide +kernel) (pa_cons (pv 1) pa_nil)) (pe_lst (pa_cons (pv 4) pa_nil))) (pa_cons (pv 2) pa_nil))))
      (pss_cons (ps_if (pt_cmpR op_ne (pv 5) (pe_and (pe_cmpR op_notN (pv 3) pe_non (nomark _)) (pe_one (pe_chain op_le op_le (pe_ix ix_tup (pv 3) pe_int (fun _ _ => rfl)) (pv 4) (pe_ix ix_tup (pv 3) pe_int (fun _ _ => rfl))))) (nomark _)) (pss_one (ps_ret pe_bl)) pss_nil)
      (pss_one (ps_if (pt_cmpR op_le (pv 4) (pe_op op_pow pe_int pe_int) (nomark _)) (pss_cons (ps_set (i := 6) sc_l_stretch_right.nd rfl (Or.inl rfl) (pe_call G_may_put (hr.mono (by decide)) (by rfl) m_may_put F_may_put.kp b_may_put .nil passL (pa_cons (pv 1) (pa_cons (pv 4) (pa_cons (pv 2) pa_nil)))))
      (pss_one (ps_if (PW.pt (pw_or (pt_not (pt_val (pe_callB call_isi (by rfl) T.n_isinstance (by decide +kernel) (pa_cons (pv 6) (pa_cons (pe_bltn (v := .ty "bool") (by rfl) T.n_bool (by decide +kernel) rfl) pa_nil))))) (pw_or1 (pt_cmpR op_ne (pv 6) (pv 5) (nomark _))))) (pss_one (ps_ret pe_bl)) pss_nil))) pss_nil)))))
      (pss_one (ps_ret pe_bl)))))), ?_⟩
  obtain ⟨h, q, a, ns, p, rfl, hh, na, o, p0, p5, k⟩ := h
  have e9 : (10 : Int) ^ Int.toNat 9 = 1000000000 := by decide
  simp only [tSeq, tAsg, tDrop, tRet, tRetN, tIfS, tNext, tTest, tB, tNot, tAnd, tOr, tChain, tIf, tAndV, tOrV, tNotV, tOp, tUn, tCB, tCons, tNil, tVar, tC, tCall, tCallS, gName, rI, rI0, rU, rEq, rNe, tTup, tLst, gSub, rSetL, rIxL, rIxT, L2.start, List.map_cons, List.map_nil, List.length_cons, List.length_nil, Nat.reduceAdd, Nat.reduceSub, List.replicate_succ, List.replicate_zero, List.getElem?_cons_zero, List.getElem?_cons_succ, List.set_cons_zero, List.set_cons_succ, Option.some.injEq, exists_eq_left', exists_eq_left, exists_and_left, V.int.injEq, V.bl.injEq, V.ref.injEq, V.str.injEq, List.cons.injEq, and_true, true_and, List.nil_append, List.cons_append, List.append_nil, reduceCtorEq, false_and, exists_false, or_false, false_or, and_false, Int.reduceNeg, decide_eq_true_eq, Bool.not_eq_true', decide_eq_false_iff_not, and_assoc, tYes, ↓reduceIte, wipe, Bool.false_eq_true, Bool.true_eq_false, cxOf, false_implies, true_implies, implies_true, forall_const, e9, sp_l_is_whole]
  refine fit_call o p0 p5 fun H1 v ms r s1 fv ft pm so => ?_
  have o1 := ok_same o s1
  have hh1 := hh.same s1
  have mb : ∀ x, x ∈ ms → 1 ≤ x := fun x hx => (o.2.2.2 x (pm.mem_iff.mp hx)).1
  -- what is due of a coin
  have due : ∀ (c : Int) (zs : List Int), 1 ≤ c → zs.Perm (ns ++ [c]) → zs.Pairwise (· ≤ ·) → (Srv p 0 zs ↔ ∃ l u, r = some (l, u) ∧ l ≤ c ∧ c ≤ u) := fun c zs c1 z1 z2 =>
    fits_iff p0 so mb c1 ft (z1.trans (pm.symm.append_right [c])) z2
  -- the loop over the coins that are tried
  have loop : ∀ (Hx : Hp), HandAt Hx h q → But h H Hx → (∀ b o, H1 b = some o → b ≠ h → Hx b = some o) → PoolOk Hx (.ref a) a ns →
      tFor (iList K (tCall (sp_l_tried K) [] E0 (tCons (tVar 0) (tCons (tVar 1) (tCons (tVar 2) tNil))))) (gName 4)
        (tSeq (tAsg (tCall (sp_l_serves K) [] E0 (tCons (tOp rCat (tCB (fun xs H Q => ∃ p, xs = [V.ref p] ∧ ∃ x, (SqL K H p x ∨ SqT K H p x) ∧ ∀ (l : Addr), H l = none → Q (V.ref l) (upd H l (HO.lst x))) (tCons (tVar 1) tNil)) (tLst (tCons (tVar 4) tNil))) (tCons (tVar 2) tNil))) (gName 5))
          (tSeq (tIfS (tTest (tOp rNe (tVar 5) (tAndV (tOp (fun x y H Q => y = V.non ∧ Q (V.bl !decide (x = V.non)) H) (tVar 3) (tC V.non)) (tChain (rI0 fun i j => V.bl (decide (i ≤ j))) (rI0 fun i j => V.bl (decide (i ≤ j))) (tOp (rIxT K) (tVar 3) (tC (V.int 0))) (tVar 4) (tOp (rIxT K) (tVar 3) (tC (V.int 1))))))) (tRet (tC (V.bl false))) tNext)
            (tIfS (tTest (tOp (rI0 fun i j => V.bl (decide (i ≤ j))) (tVar 4) (tOp (rI CPow fun i j => V.int (i ^ j.toNat)) (tC (V.int 10)) (tC (V.int 9)))))
              (tSeq (tAsg (tCall (sp_may_put K cBadPool cBadCoin cBadPeople) [] E0 (tCons (tVar 1) (tCons (tVar 4) (tCons (tVar 2) tNil)))) (gName 6))
                (tIfS (tOr (tNot (tB (tCB (rIsi K) (tCons (tVar 6) (tCons (tC (V.ty "bool")) tNil))))) (tTest (tOp rNe (tVar 6) (tVar 5)))) (tRet (tC (V.bl false))) tNext))
              tNext)))
        { nx := tRet (tC (V.bl true)) { nx := fun x H' => Q V.non H', rt := Q }, rt := Q }
        [some (V.ref h), some (V.ref a), some (V.int p), some v, none, none, none] Hx := by
    intro Hx hx bx b1 ox
    refine ⟨_, rfl, _, rfl, _, rfl, h, q, a, ns, p, rfl, hx, ox.2.1, ox.2.2.1, ox.2.2.2, p0, p5, fun cs l H2 cb h2 b2 nl el => ⟨l, rfl, ⟨_, SqL.of el⟩, for_list (K := K) (a := l) (xs := cs.map V.int) (fun j z hz => ∃ w4 w5 w6 : Option V, z = [some (V.ref h), some (V.ref a), some (V.int p), some v, w4, w5, w6] ∧ Same H2 hz)
      ⟨_, _, _, rfl, Same.refl H2⟩ (fun j z hz _ ⟨_, _, _, _, s⟩ => SqL.of (s _ _ el)) ?_ ?_⟩⟩
    · rintro j y z hz hj ⟨w4, w5, w6, rfl, sz⟩
      obtain ⟨g, hg, rfl⟩ := nat_map hj
      have g1 := cb g (List.mem_of_getElem? hg)
      simp only [tSeq, tAsg, tDrop, tRet, tRetN, tIfS, tNext, tTest, tB, tNot, tAnd, tOr, tChain, tIf, tAndV, tOrV, tNotV, tOp, tUn, tCB, tCons, tNil, tVar, tC, tCall, tCallS, gName, rI, rI0, rU, rEq, rNe, tTup, tLst, gSub, rSetL, rIxL, rIxT, L2.start, List.map_cons, List.map_nil, List.length_cons, List.length_nil, Nat.reduceAdd, Nat.reduceSub, List.replicate_succ, List.replicate_zero, List.getElem?_cons_zero, List.getElem?_cons_succ, List.set_cons_zero, List.set_cons_succ, Option.some.injEq, exists_eq_left', exists_eq_left, exists_and_left, V.int.injEq, V.bl.injEq, V.ref.injEq, V.str.injEq, List.cons.injEq, and_true, true_and, List.nil_append, List.cons_append, List.append_nil, reduceCtorEq, false_and, exists_false, or_false, false_or, and_false, Int.reduceNeg, decide_eq_true_eq, Bool.not_eq_true', decide_eq_false_iff_not, and_assoc, tYes, ↓reduceIte, wipe, Bool.false_eq_true, Bool.true_eq_false, cxOf, false_implies, true_implies, implies_true, forall_const, e9]
      have bz : ∀ b o, H1 b = some o → b ≠ h → hz b = some o := fun b o e n => sz _ _ (b2 _ _ (b1 b o e n) n)
      have oz : PoolOk hz (.ref a) a ns := ⟨rfl, ox.2.1.elim (fun e => .inl (sz _ _ (b2 _ _ e na))) (fun e => .inr (sz _ _ (b2 _ _ e na))), ox.2.2⟩
      refine ⟨_, oz.2.1.sq, fun l1 hl1 => ⟨by decide, fun l2 hl2 => ?_⟩⟩
      have t1 := Same.new (o := HO.lst (ns.map V.int)) hl1
      have t2 := Same.new (o := HO.lst [V.int g]) hl2
      refine ⟨l1, l2, _, _, rfl, rfl, t2 _ _ upd_same, upd_same, ?_, fun l3 hl3 => ?_⟩
      · rw [List.length_map]
        exact Nat.le_of_lt (Nat.lt_of_le_of_lt (show ns.length + 1 ≤ 300 by have := ox.2.2.1; omega) (by decide))
      have t3 := (t1.trans t2).trans (Same.new (o := HO.lst (ns.map V.int ++ [V.int g])) hl3)
      refine serves_call (ns := ns ++ [g]) (.inr (by rw [upd_same, List.map_append]; rfl)) p0 p5 fun zs H4 s4 z1 z2 => ?_
      have s04 := t3.trans s4
      have s24 := sz.trans s04
      have o4 := ok_same oz s04
      have tl : CPow 10 9 ∧ if g ≤ 1000000000 then sp_may_put K cBadPool cBadCoin cBadPeople [V.ref a, V.int g, V.int p] H4
          (fun x_3 H1 => rIsi K [x_3, V.ty "bool"] H1 fun x_4 H1 => ∃ c, x_4 = V.bl c ∧ if c = false then Q (V.bl false) H1 else scal x_3 (V.bl (srvB p zs)) = true ∧ if ¬x_3 = V.bl (srvB p zs) then Q (V.bl false) H1 else Same H2 H1) E0
          else Same H2 H4 := by
        refine ⟨⟨by decide, by decide, by decide⟩, ?_⟩
        split
        · rename_i g2
          refine put_call o4 g1 g2 p0 p5 fun H5 ys s5 y1 y2 => ?_
          have e := PySem.W.os_sorted_one (y1.trans z1.symm) y2 z2
          subst e
          refine isi_bool True.intro ⟨_, rfl, ?_⟩
          rw [if_neg (fun z => by cases z)]
          refine ⟨rfl, ?_⟩
          rw [if_neg (fun z => z rfl)]
          exact s24.trans s5
        · exact s24
      have du := due g zs g1 z1 z2
      cases r with
      | none =>
        have ev : v = .non := fv
        have nb : srvB p zs = false := srvB_false fun z => by
          obtain ⟨_, _, e, _⟩ := du.mp z
          cases e
        rw [if_neg (fun z => z ev)]
        refine ⟨rfl, ?_⟩
        rw [if_neg (fun z => z (by rw [nb]))]
        exact tl
      | some lu =>
        obtain ⟨lo, up⟩ := lu
        obtain ⟨b, ev, eb⟩ := fv
        have nbh : b ≠ h := fun z => by
          obtain ⟨_, _, _, _, w1, _⟩ := hh1.ex
          rw [z, w1] at eb
          cases eb
        have eb4 := s04 _ _ (bz _ _ eb nbh)
        have eq : srvB p zs = decide (lo ≤ g ∧ g ≤ up) := by
          by_cases z : lo ≤ g ∧ g ≤ up
          · rw [srvB_true (du.mpr ⟨lo, up, rfl, z.1, z.2⟩), decide_eq_true z]
          · rw [srvB_false (fun y => z (by obtain ⟨_, _, e, y1, y2⟩ := du.mp y; cases e; exact ⟨y1, y2⟩)), decide_eq_false z]
        rw [if_pos (by rw [ev]; exact fun z => by cases z)]
        refine ⟨b, ev, _, SqT.of eb4, _, rfl, _, rfl, ?_⟩
        split
        · rename_i g2
          refine ⟨b, ev, _, SqT.of eb4, _, rfl, _, rfl, rfl, ?_⟩
          rw [if_neg (fun z => z (by rw [eq]; simp [g2]))]
          exact tl
        · rename_i g2
          refine ⟨rfl, ?_⟩
          rw [if_neg (fun z => z (by rw [eq]; simp [g2]))]
          exact tl
    · rintro z hz ⟨w4, w5, w6, rfl, sz⟩
      exact k hz (h2.same sz) ((bx.trans b2).trans (But.of sz))
  cases r with
  | none =>
    have ev : v = .non := fv
    rw [if_neg (fun z => z ev)]
    refine next_call o1 p0 p5 fun H2 ms2 r2 s2 ft2 pm2 so2 => ?_
    have em := PySem.W.os_sorted_one (pm2.trans pm.symm) so2 so
    subst em
    have er := fits_uniq ft2 ft
    subst er
    rw [if_neg (fun z => z ev)]
    refine ⟨rfl, ?_⟩
    rw [if_neg (fun z => z rfl)]
    exact loop H2 (hh1.same s2) (But.of (s1.trans s2)) (fun b o e _ => s2 _ _ e) (ok_same o1 s2)
  | some lu =>
    obtain ⟨lo, up⟩ := lu
    obtain ⟨b, ev, eb⟩ := fv
    have lu := fits_low p0 mb ft
    rw [if_pos (by rw [ev]; exact fun z => by cases z), ev]
    refine isi_tuple eb ⟨_, rfl, ?_⟩
    rw [if_neg (fun z => by cases z)]
    refine ⟨b, rfl, _, .inr (SqT.of eb), rfl, ?_⟩
    rw [if_neg (fun z => z rfl)]
    refine ⟨b, rfl, _, SqT.of eb, _, rfl, True.intro, ?_⟩
    rw [if_neg (fun z => by cases z)]
    refine ⟨b, rfl, _, SqT.of eb, _, rfl, True.intro, ?_⟩
    rw [if_neg (fun z => by cases z)]
    refine ⟨b, rfl, _, SqT.of eb, _, rfl, _, rfl, ?_⟩
    rw [if_pos lu.1]
    refine ⟨b, rfl, _, SqT.of eb, _, rfl, lo, rfl, up, rfl, ?_⟩
    rw [if_neg (fun z => z lu.2)]
    refine ⟨_, o1.2.1.sq, fun l1 hl1 => ?_⟩
    have t1 := Same.new (o := HO.lst (ns.map V.int)) hl1
    refine ⟨b, rfl, _, SqT.of (t1 _ _ eb), _, rfl, by decide, fun l2 hl2 => ?_⟩
    have t2 := Same.new (o := HO.lst [V.int lo]) hl2
    refine cat_serves (t2 _ _ upd_same) upd_same o1.2.2.1 p0 p5 fun zs H2 s2 z1 z2 => ?_
    rw [srvB_true ((due lo zs lu.1 z1 z2).mpr ⟨lo, up, rfl, Int.le_refl _, lu.2⟩)]
    refine ⟨_, rfl, ?_⟩
    rw [if_neg (fun z => by cases z)]
    have s12 := (t1.trans t2).trans s2
    have o2 := ok_same o1 s12
    have eb2 := s12 _ _ eb
    refine ⟨_, o2.2.1.sq, fun l3 hl3 => ?_⟩
    have t3 := Same.new (o := HO.lst (ns.map V.int)) hl3
    refine ⟨b, rfl, _, SqT.of (t3 _ _ eb2), _, rfl, by decide, fun l4 hl4 => ?_⟩
    have t4 := Same.new (o := HO.lst [V.int up]) hl4
    refine cat_serves (t4 _ _ upd_same) upd_same o1.2.2.1 p0 p5 fun ys H3 s3 y1 y2 => ?_
    rw [srvB_true ((due up ys (by omega) y1 y2).mpr ⟨lo, up, rfl, lu.2, Int.le_refl _⟩)]
    refine ⟨_, rfl, ?_⟩
    rw [if_neg (fun z => by cases z)]
    have s13 := s12.trans ((t3.trans t4).trans s3)
    have o3 := ok_same o1 s13
    have eb3 := s13 _ _ eb
    refine next_call o3 p0 p5 fun H4 ms2 r2 s4 ft2 pm2 so2 => ?_
    have em := PySem.W.os_sorted_one (pm2.trans pm.symm) so2 so
    subst em
    have er := fits_uniq ft2 ft
    subst er
    have s14 := s13.trans s4
    rw [if_pos (fun z => by cases z)]
    refine ⟨b, rfl, _, SqT.of (s4 _ _ eb3), _, rfl, rfl, ?_⟩
    rw [if_neg (fun z => z rfl)]
    have lp := loop H4 (hh1.same s14) (But.of (s1.trans s14)) (fun b o e _ => s14 _ _ e) (ok_same o1 s14)
    rw [ev] at lp
    exact lp
end
end My
set_option Elab.async false
set_option linter.all false
set_option maxRecDepth 100000
set_option maxHeartbeats 4000000
namespace My
open PySem PySem.Spec PyProof.Rows L2 Gen
section
variable {P : Program} {w : World} {K : PySem.W.Frag} {mg : Str → Option Value} {base : Heap} { cBadPool cBadPeople cBadCoin : Addr}
theorem plain_row {H H' : Hp} {a : Addr} {xs : List V} (hp : Plain H (.ref a)) (s : Same H H') (r : Row H' a xs) : Row H a xs := by
  rcases hp with ⟨ys, h⟩ | ⟨ys, h⟩ | ⟨ys, h⟩
  · rw [← Row.one (H := H') (.inl (s _ _ h)) r]
    exact .inl h
  · rw [← Row.one (H := H') (.inr (s _ _ h)) r]
    exact .inr h
  · rcases r with r | r <;> (rw [s _ _ h] at r; cases r)
theorem arg_same {H H' : Hp} {x : V} (h : Arg H x) (s : Same H H') : Arg H' x := ⟨h.1.same s, fun a xs e r y hy => by
  subst e
  exact (h.2 a xs rfl (plain_row h.1 s r) y hy).same s⟩
theorem few_same {H H' : Hp} {x : V} (h : Plain H x) (n : ¬ FewRow H x) (s : Same H H') : ¬ FewRow H' x := fun ⟨a, xs, e, r, l⟩ => n ⟨a, xs, e, by
  subst e
  exact plain_row h s r, l⟩
theorem bad_same {H H' : Hp} {x : V} {a : Addr} {xs : List V} {i : Nat} {y : V} (b : BadAt H x a xs i y) (s : Same H H') : BadAt H' x a xs i y := ⟨b.1, b.2.1.same s, b.2.2⟩
theorem ne_trip {H : Hp} {a b : Addr} {x y : Str} {n : Int} {Q : VK} (ha : H a = some (.tup [.str x, .int n, .str y])) (hb : H b = some (.tup [.str x, .int n, .str y])) (sx : SeqAt.shaped (.tuple [.str x, .int n, .str y]) = true) (q : Q (.bl false) H) : rNeD K (.ref a) (.ref b) H Q := by
  refine ⟨.tuple [.str x, .int n, .str y], .tuple [.str x, .int n, .str y], .tup (SqT.of ha) (.cons (.str _) (.cons (.int _) (.cons (.str _) .nil))), .tup (SqT.of hb) (.cons (.str _) (.cons (.int _) (.cons (.str _) .nil))), sx, sx, ?_⟩
  have e : PyData.eqv (.tuple [.str x, .int n, .str y]) (.tuple [.str x, .int n, .str y]) = true := by simp [PyData.eqv, PyData.eqvAll]
  rw [e]
  exact q
theorem eq_pair {H : Hp} {a b : Addr} {x : Str} {n : Int} {Q : VK} (ha : H a = some (.tup [.str x, .int n])) (hb : H b = some (.tup [.str x, .int n])) (sx : SeqAt.shaped (.tuple [.str x, .int n]) = true) (q : Q (.bl true) H) : rEqD K (.ref a) (.ref b) H Q := by
  refine ⟨.tuple [.str x, .int n], .tuple [.str x, .int n], .tup (SqT.of ha) (.cons (.str _) (.cons (.int _) .nil)), .tup (SqT.of hb) (.cons (.str _) (.cons (.int _) .nil)), sx, sx, ?_⟩
  have e : PyData.eqv (.tuple [.str x, .int n]) (.tuple [.str x, .int n]) = true := by simp [PyData.eqv, PyData.eqvAll]
  rw [e]
  exact q
theorem shaped_trip (n : Int) (u : Str) (h : u = "coin" ∨ u = "many") : SeqAt.shaped (.tuple [.str ("pool" : Str), .int n, .str u]) = true := by
  rcases h with rfl | rfl <;> simp [SeqAt.shaped, PyData.canLay0, PyData.canLayAll0, PyData.depth, PyData.depthAll] <;> decide +kernel
/-- what is told of X: the word u and the place i -/
def Told (H : Hp) (X : V) (i : Int) (u : Str) : Prop := Arg H X ∧ ((¬ FewRow H X ∧ i = 0 ∧ u = "many") ∨ ∃ (a : Addr) (xs : List V) (j : Nat) (z : V), BadAt H X a xs j z ∧ i = j ∧ u = "coin")
theorem Told.same {H H' : Hp} {X : V} {i : Int} {u : Str} (t : Told H X i u) (s : Same H H') : Told H' X i u := by
  obtain ⟨a, ⟨n, e1, e2⟩ | ⟨b, xs, j, z, c, e1, e2⟩⟩ := t
  · exact ⟨arg_same a s, .inl ⟨few_same a.1 n s, e1, e2⟩⟩
  · exact ⟨arg_same a s, .inr ⟨b, xs, j, z, bad_same c s, e1, e2⟩⟩
theorem Told.wd {H : Hp} {X : V} {i : Int} {u : Str} (t : Told H X i u) : u = "coin" ∨ u = "many" := by
  obtain ⟨a, ⟨n, e1, e2⟩ | ⟨b, xs, j, z, c, e1, e2⟩⟩ := t
  · exact .inr e2
  · exact .inl e2
theorem plain_but {h q : Addr} {H H' : Hp} {x : V} (hd : HandAt H' h q) (b : But h H H') (p : Plain H x) : Plain H' x := by
  cases x with
  | ref a =>
    by_cases e : a = h
    · obtain ⟨_, _, _, _, h1, _⟩ := hd.ex
      rw [e]
      exact .inr (.inl ⟨_, h1⟩)
    · rcases p with ⟨xs, p⟩ | ⟨xs, p⟩ | ⟨xs, p⟩
      · exact .inl ⟨xs, b _ _ p e⟩
      · exact .inr (.inl ⟨xs, b _ _ p e⟩)
      · exact .inr (.inr ⟨xs, b _ _ p e⟩)
  | _ => exact p
theorem plain_row' {H : Hp} {a : Addr} {xs : List V} (r : Row H a xs) : Plain H (.ref a) := r.elim (fun h => .inl ⟨_, h⟩) fun h => .inr (.inl ⟨_, h⟩)
theorem arg_row {H : Hp} {a : Addr} {xs : List V} (r : Row H a xs) (h : ∀ y, y ∈ xs → Plain H y) : Arg H (.ref a) := ⟨plain_row' r, fun b ys e r2 y hy => by
  cases e
  rw [← Row.one r r2] at hy
  exact h y hy⟩
theorem few_row {H : Hp} {a : Addr} {xs : List V} (r : Row H a xs) (h : 12 < xs.length) : ¬ FewRow H (.ref a) := fun ⟨b, ys, e, r2, l⟩ => by
  cases e
  rw [← Row.one r r2] at l
  omega
theorem arg_no {H : Hp} {x : V} (hp : Plain H x) (n : ∀ a, x ≠ .ref a) : Arg H x ∧ ¬ FewRow H x := ⟨⟨hp, fun a _ e => absurd e (n a)⟩, fun ⟨a, _, e, _⟩ => n a e⟩
theorem arg_dk {H : Hp} {a : Addr} {kvs : List (Key × V)} (h : H a = some (.dK kvs)) : Arg H (.ref a) ∧ ¬ FewRow H (.ref a) := by
  have no : ∀ b xs, V.ref a = .ref b → ¬ Row H b xs := fun b xs e r => by
    cases e
    rcases r with r | r <;> (rw [h] at r; cases r)
  exact ⟨⟨.inr (.inr ⟨_, h⟩), fun b xs e r => absurd r (no b xs e)⟩, fun ⟨b, xs, e, r, _⟩ => no b xs e r⟩
theorem plain_upd {H : Hp} {x : V} {l : Addr} {o : HO} (hp : Plain H x) (n : x ≠ .ref l) : Plain (upd H l o) x := by
  cases x with
  | ref a =>
    have na : a ≠ l := fun z => n (by rw [z])
    rcases hp with ⟨xs, h⟩ | ⟨xs, h⟩ | ⟨xs, h⟩
    · exact .inl ⟨xs, by rw [upd_ne na]; exact h⟩
    · exact .inr (.inl ⟨xs, by rw [upd_ne na]; exact h⟩)
    · exact .inr (.inr ⟨xs, by rw [upd_ne na]; exact h⟩)
  | _ => exact hp
theorem plain_off {H : Hp} {x : V} {l : Addr} (hp : Plain H x) (f : H l = none) : x ≠ .ref l := fun e => by
  subst e
  rcases hp with ⟨xs, h⟩ | ⟨xs, h⟩ | ⟨xs, h⟩ <;> (rw [f] at h; cases h)
theorem told_bad {H : Hp} {X u y : V} {nm : Str} {i : Int} {wd : Str} {Q : VK} {E : XK} (kd : KindW nm) (t : Told H X i wd) (hu : Plain H u) (hy : Plain H y) (k : ∀ H' p, Same H H' → H' p = some (.tup [.str "pool", .int i, .str wd]) → Q (.ref p) H') : sp_l_told K [.str nm, X, u, y] H Q E := by
  obtain ⟨a, ⟨n, rfl, rfl⟩ | ⟨b, xs, j, z, c, rfl, rfl⟩⟩ := t
  · exact ⟨nm, X, u, y, rfl, kd, a, hu, hy, .inl ⟨n, fun H' p s _ e => k H' p s e⟩⟩
  · exact ⟨nm, X, u, y, rfl, kd, a, hu, hy, .inr (.inl ⟨b, xs, j, z, c, fun H' p s _ e => k H' p s e⟩)⟩
theorem row_back {h : Addr} {H H' : Hp} {a : Addr} {xs : List V} (hp : Plain H (.ref a)) (b : But h H H') (n : a ≠ h) (r : Row H' a xs) : Row H a xs := by
  rcases hp with ⟨ys, e⟩ | ⟨ys, e⟩ | ⟨ys, e⟩
  · rw [← Row.one (H := H') (.inl (b _ _ e n)) r]
    exact .inl e
  · rw [← Row.one (H := H') (.inr (b _ _ e n)) r]
    exact .inr e
  · rcases r with r | r <;> (rw [b _ _ e n] at r; cases r)
theorem told_but {h q : Addr} {H H' : Hp} {X : V} {i : Int} {u : Str} (hd : HandAt H' h q) (b : But h H H') (n : X ≠ .ref h) (t : Told H X i u) : Told H' X i u := by
  obtain ⟨ar, t⟩ := t
  have ar' : Arg H' X := ⟨plain_but hd b ar.1, fun a xs e r y hy => plain_but hd b (ar.2 a xs e (row_back (e ▸ ar.1) b (fun z => n (by rw [e, z])) r) y hy)⟩
  rcases t with ⟨f, e1, e2⟩ | ⟨c, xs, j, z, d, e1, e2⟩
  · exact ⟨ar', .inl ⟨fun ⟨a, xs, e, r, l⟩ => f ⟨a, xs, e, row_back (e ▸ ar.1) b (fun z => n (by rw [e, z])) r, l⟩, e1, e2⟩⟩
  · refine ⟨ar', .inr ⟨c, xs, j, z, ⟨d.1, ?_, d.2.2⟩, e1, e2⟩⟩
    have nc : c ≠ h := fun z => n (by rw [d.1, z])
    exact d.2.1.elim (fun e => .inl (b _ _ e nc)) fun e => .inr (b _ _ e nc)
theorem ne_pair {H : Hp} {a b : Addr} {x : Str} {n : Int} {Q : VK} (ha : H a = some (.tup [.str x, .int n])) (hb : H b = some (.tup [.str x, .int n])) (sx : SeqAt.shaped (.tuple [.str x, .int n]) = true) (q : Q (.bl false) H) : rNeD K (.ref a) (.ref b) H Q := by
  refine ⟨.tuple [.str x, .int n], .tuple [.str x, .int n], .tup (SqT.of ha) (.cons (.str _) (.cons (.int _) .nil)), .tup (SqT.of hb) (.cons (.str _) (.cons (.int _) .nil)), sx, sx, ?_⟩
  have e : PyData.eqv (.tuple [.str x, .int n]) (.tuple [.str x, .int n]) = true := by simp [PyData.eqv, PyData.eqvAll]
  rw [e]
  exact q
def sp_l_refusals_right (_ : PySem.W.Frag) : Sp := fun vs H Q _ => ∃ (h q a : Addr) (ns : List Int) (p : Int), vs = [.ref h, .ref a, .int p] ∧ HandAt H h q ∧ H a = some (.lst (ns.map V.int)) ∧ a ≠ h ∧ ns.length ≤ 12 ∧ (∀ n, n ∈ ns → 1 ≤ n ∧ n ≤ 1000000000) ∧ 2 ≤ p ∧ p ≤ 5 ∧ ∀ H', Q (.bl true) H'
theorem len_l_refusals_right {vs H Q E} (h : sp_l_refusals_right K vs H Q E) : vs.length = 3 := by
  obtain ⟨_, _, _, _, _, rfl, _⟩ := h; rfl
theorem ok_l_refusals_right {f : Addr} {fd : FuncData} (F : Fun K "_law_refusals_right" "_law_refusals_right" s_l_refusals_right f fd) (T : Txt K mg cBadPool cBadPeople cBadCoin) : FnOk P w K mg base CX0 7 f fd ps_l_refusals_right (sp_l_refusals_right K) := by
  obtain ⟨f_l_pick, fd_l_pick, F_l_pick, m_l_pick, b_l_pick⟩ := T.d_l_pick
  have G_l_pick : FnOk P w K mg base CX0 3 f_l_pick fd_l_pick ps_l_pick (sp_l_pick K) := ok_l_pick F_l_pick T
  obtain ⟨f_l_odd_people, fd_l_odd_people, F_l_odd_people, m_l_odd_people, b_l_odd_people⟩ := T.d_l_odd_people
  have G_l_odd_people : FnOk P w K mg base CX0 4 f_l_odd_people fd_l_odd_people ps_l_odd_people (sp_l_odd_people K) := ok_l_odd_people F_l_odd_people T
  obtain ⟨f_l_draw, fd_l_draw, F_l_draw, m_l_draw, b_l_draw⟩ := T.d_l_draw
  have G_l_draw : FnOk P w K mg base CX0 2 f_l_draw fd_l_draw ps_l_draw (sp_l_draw K) := ok_l_draw F_l_draw T
  obtain ⟨f_l_told, fd_l_told, F_l_told, m_l_told, b_l_told⟩ := T.d_l_told
  have G_l_told : FnOk P w K mg base CX0 6 f_l_told fd_l_told ps_l_told (sp_l_told K) := ok_l_told F_l_told T
  refine F.ok (k := 6) sc_l_refusals_right (fun vs H Q E h => len_l_refusals_right h) (fun cdv A outer s H vs Q E hr h => ?_)
  refine ⟨_, (pss_cons (ps_set (i := 3) sc_l_refusals_right.nd rfl (Or.inl rfl) (pe_call G_l_pick (hr.mono (by decide)) (by rfl) m_l_pick F_l_pick.kp b_l_pick .nil pass0 (pa_cons (pv 0) (pa_cons (pe_lst (pa_cons pe_int (pa_cons (pe_un un_neg pe_int) (pa_cons (pe_op op_add (pe_op op_pow pe_int pe_int) pe_int) (pa_cons pe_non (pa_cons pe_bl (pa_cons pe_str (pa_cons (pe_op op_pow pe_int pe_int) pa_nil)))))))) pa_nil))))
      (pss_cons (ps_set (i := 4) sc_l_refusals_right.nd rfl (Or.inl rfl) (pe_call G_l_odd_people (hr.mono (by decide)) (by rfl) m_l_odd_people F_l_odd_people.kp b_l_odd_people .nil pass0 (pa_cons (pv 0) pa_nil)))
      (pss_cons (ps_set (i := 5) sc_l_refusals_right.nd rfl (Or.inl rfl) (pe_call G_l_draw (hr.mono (by decide)) (by rfl) m_l_draw F_l_draw.kp b_l_draw .nil pass0 (pa_cons (pv 0) (pa_cons (pe_op op_add (pe_callB call_len_seq (by rfl) T.n_len (by decide +kernel) (pa_cons (pv 1) pa_nil)) pe_int) pa_nil))))
      (pss_cons (ps_set (i := 6) sc_l_refusals_right.nd rfl (Or.inl rfl) (pe_slice sl_list (pe_op op_cat (pv 1) (pe_lst (pa_cons pe_int pa_nil))) po_none (po_some pe_int)))
      (pss_cons (ps_set (i := 5) sc_l_refusals_right.nd rfl (Or.inl rfl) (pe_callB (call_min2 rfl) (by rfl) T.n_min (by decide +kernel) (pa_cons (pv 5) (pa_cons (pe_op op_sub (pe_callB call_len_seq (by rfl) T.n_len (by decide +kernel) (pa_cons (pv 6) pa_nil)) pe_int) pa_nil))))
      (pss_cons (ps_asg (pe_call G_l_pick (hr.mono (by decide)) (by rfl) m_l_pick F_l_pick.kp b_l_pick .nil pass0 (pa_cons (pv 0) (pa_cons (pe_lst (pa_cons pe_int (pa_cons (pe_un un_neg pe_int) (pa_cons (pe_op op_add (pe_op op_pow pe_int pe_int) pe_int) (pa_cons pe_non (pa_cons pe_bl (pa_cons pe_str (pa_cons (pe_tup (pa_cons pe_int pa_nil)) pa_nil)))))))) pa_nil))) (pg_sub (pv 6) (pv 5) set_list))
      (pss_cons (ps_set (i := 7) sc_l_refusals_right.nd rfl (Or.inl rfl) (pe_tup (pa_cons pe_str (pa_cons (pv 5) (pa_cons pe_str pa_nil)))))
      (pss_cons (ps_if (pt_cmpR op_eq (pe_call G_l_draw (hr.mono (by decide)) (by rfl) m_l_draw F_l_draw.kp b_l_draw .nil pass0 (pa_cons (pv 0) (pa_cons pe_int pa_nil))) pe_int (nomark _)) (pss_cons (ps_set (i := 6) sc_l_refusals_right.nd rfl (Or.inl rfl) (pe_call G_l_pick (hr.mono (by decide)) (by rfl) m_l_pick F_l_pick.kp b_l_pick .nil pass0 (pa_cons (pv 0) (pa_cons (pe_lst (pa_cons pe_non (pa_cons pe_int (pa_cons pe_str (pa_cons (pe_op op_rep (pe_lst (pa_cons pe_int pa_nil)) pe_int) (pa_cons (pe_op op_repT (pe_tup (pa_cons pe_int pa_nil)) pe_int) (pa_cons pe_dnewK pa_nil))))))) pa_nil))))
      (pss_one (ps_set (i := 7) sc_l_refusals_right.nd rfl (Or.inl rfl) (pe_tup (pa_cons pe_str (pa_cons pe_int (pa_cons pe_str pa_nil))))))) pss_nil)
      (pss_cons (ps_for PassesOwn.never rfl (pi_tup (pe_tup (pa_cons pe_str (pa_cons pe_str (pa_cons pe_str (pa_cons pe_str pa_nil)))))) (pg_name (i := 8) sc_l_refusals_right.nd rfl (Or.inl rfl))
      (pss_cons (ps_if (PW.pt (pw_or (pt_cmpR (op_neD hr.units) (pe_call G_l_told (hr.mono (by decide)) (by rfl) m_l_told F_l_told.kp b_l_told .nil pass0 (pa_cons (pv 8) (pa_cons (pv 6) (pa_cons (pv 3) (pa_cons (pv 4) pa_nil))))) (pv 7) (nomark _)) (pw_or1 (pt_cmpR (op_neD hr.units) (pe_call G_l_told (hr.mono (by decide)) (by rfl) m_l_told F_l_told.kp b_l_told .nil pass0 (pa_cons (pv 8) (pa_cons (pv 6) (pa_cons pe_int (pa_cons (pv 2) pa_nil))))) (pv 7) (nomark _))))) (pss_one (ps_ret pe_bl)) pss_nil)
      (pss_one (ps_if (pt_cmpR (op_neD hr.units) (pe_call G_l_told (hr.mono (by decide)) (by rfl) m_l_told F_l_told.kp b_l_told .nil pass0 (pa_cons (pv 8) (pa_cons (pv 1) (pa_cons (pe_op op_add pe_int (pe_call G_l_draw (hr.mono (by decide)) (by rfl) m_l_draw F_l_draw.kp b_l_draw .nil pass0 (pa_cons (pv 0) (pa_cons pe_int pa_nil)))) (pa_cons (pv 4) pa_nil))))) (pe_tup (pa_cons pe_str (pa_cons pe_int pa_nil))) (nomark _)) (pss_one (ps_ret pe_bl)) pss_nil))))
      (pss_one (ps_ret (pe_and (pe_cmpR (op_eqD hr.units) (pe_call G_l_told (hr.mono (by decide)) (by rfl) m_l_told F_l_told.kp b_l_told .nil pass0 (pa_cons pe_str (pa_cons (pv 1) (pa_cons (pv 3) (pa_cons (pv 2) pa_nil))))) (pe_tup (pa_cons pe_str (pa_cons pe_int pa_nil))) (nomark _)) (pe_one (pe_cmpR (op_eqD hr.units) (pe_call G_l_told (hr.mono (by decide)) (by rfl) m_l_told F_l_told.kp b_l_told .nil pass0 (pa_cons pe_str (pa_cons (pv 1) (pa_cons (pv 3) (pa_cons (pv 4) pa_nil))))) (pe_tup (pa_cons pe_str (pa_cons pe_int pa_nil))) (nomark _))))))))))))))), ?_⟩
  obtain ⟨h, q, a, ns, p, rfl, hh, ha, nh, hl, nb, p0, p5, k⟩ := h
  have e9 : (10 : Int) ^ Int.toNat 9 = 1000000000 := by decide
  have e20 : (10 : Int) ^ Int.toNat 20 = 100000000000000000000 := by decide
  simp only [tSeq, tAsg, tDrop, tRet, tRetN, tIfS, tNext, tTest, tB, tNot, tAnd, tOr, tChain, tIf, tAndV, tOrV, tNotV, tOp, tUn, tCB, tCons, tNil, tVar, tC, tCall, tCallS, gName, rI, rI0, rU, rEq, rNe, tTup, tLst, gSub, rSetL, rIxL, rIxT, L2.start, List.map_cons, List.map_nil, List.length_cons, List.length_nil, Nat.reduceAdd, Nat.reduceSub, List.replicate_succ, List.replicate_zero, List.getElem?_cons_zero, List.getElem?_cons_succ, List.set_cons_zero, List.set_cons_succ, Option.some.injEq, exists_eq_left', exists_eq_left, exists_and_left, V.int.injEq, V.bl.injEq, V.ref.injEq, V.str.injEq, List.cons.injEq, and_true, true_and, List.nil_append, List.cons_append, List.append_nil, reduceCtorEq, false_and, exists_false, or_false, false_or, and_false, Int.reduceNeg, decide_eq_true_eq, Bool.not_eq_true', decide_eq_false_iff_not, and_assoc, tYes, ↓reduceIte, wipe, Bool.false_eq_true, Bool.true_eq_false, cxOf, false_implies, true_implies, implies_true, forall_const, e9, e20, spDraw, sp_l_odd_people, sp_l_pick]
  refine ⟨⟨by decide, by decide, by decide⟩, ⟨by decide, by decide, by decide⟩, by decide, fun l0 h0 => ⟨q, hh.same (Same.new h0), _, upd_same, (show 0 < 7 by decide), (show 7 ≤ 1000 by decide), hh.off h0, fun oc H1 hoc hh1 b1 => ⟨q, hh1, fun po H2 po1 po2 hh2 b2 => ?_⟩⟩⟩
  have hoc' : (∀ Hx, Plain Hx oc) ∧ whole oc 1 1000000000 = false := by
    simp only [List.mem_cons, List.not_mem_nil, or_false] at hoc
    rcases hoc with rfl | rfl | rfl | rfl | rfl | rfl | rfl
    all_goals exact ⟨fun _ => True.intro, by decide +kernel⟩
  have ha2 := b2 _ _ (b1 _ _ ((Same.new h0) _ _ ha) nh) nh
  refine ⟨_, .inl (SqL.of ha2), q, hh2, by omega, by rw [List.length_map]; omega, fun pl H3 pl0 pl1 hh3 b3 => ?_⟩
  have ha3 := b3 _ _ ha2 nh
  have po3 := plain_but hh3 b3 po1
  refine ⟨_, rfl, (show 1 ≤ sizeLine by decide), fun l1 h1 => ⟨a, l1, _, _, rfl, rfl, (Same.new h1) _ _ ha3, upd_same, by rw [List.length_map]; exact Nat.le_of_lt (Nat.lt_of_le_of_lt (show _ ≤ 100 by show ns.length + 1 ≤ 100; omega) (by decide)), fun l2 h2 => ⟨_, rfl, l2, _, rfl, SqL.of upd_same, fun l3 h3 => ?_⟩⟩⟩
  have ec : cutV (ns.map V.int ++ [V.int 1]) none (some 12) = ((ns ++ [1]).take 12).map V.int := by
    have z := cut_to (ns ++ [1]) 12
    rw [List.map_append] at z
    exact z
  rw [ec]
  have ol : 0 < ((ns ++ [1]).take 12).length ∧ ((ns ++ [1]).take 12).length ≤ 12 := by
    rw [List.length_take, List.length_append]
    show 0 < min 12 (ns.length + 1) ∧ min 12 (ns.length + 1) ≤ 12
    omega
  have ob : ∀ n, n ∈ (ns ++ [1]).take 12 → 1 ≤ n ∧ n ≤ 1000000000 := fun n hn => by
    rcases List.mem_append.mp (List.mem_of_mem_take hn) with hn | hn
    · exact nb n hn
    · rw [List.mem_singleton.mp hn]
      exact ⟨by decide, by decide⟩
  generalize (ns ++ [1]).take 12 = os at ol ob
  have s4 := (Same.new (o := HO.lst [V.int 1]) h1).trans ((Same.new (o := HO.lst (ns.map V.int ++ [V.int 1])) h2).trans (Same.new (o := HO.lst (os.map V.int)) h3))
  have n3h := (hh3.same ((Same.new (o := HO.lst [V.int 1]) h1).trans (Same.new (o := HO.lst (ns.map V.int ++ [V.int 1])) h2))).off h3
  have n3q := handOffq (hh3.same ((Same.new (o := HO.lst [V.int 1]) h1).trans (Same.new (o := HO.lst (ns.map V.int ++ [V.int 1])) h2))) h3
  have n3a : l3 ≠ a := fun z => by
    have y := (Same.new (o := HO.lst (ns.map V.int ++ [V.int 1])) h2) _ _ ((Same.new (o := HO.lst [V.int 1]) h1) _ _ ha3)
    rw [← z, h3] at y
    cases y
  have f3 : H3 l3 = none := Same.free ((Same.new (o := HO.lst [V.int 1]) h1).trans (Same.new (o := HO.lst (ns.map V.int ++ [V.int 1])) h2)) h3
  have e3 : upd (upd (upd H3 l1 (HO.lst [V.int 1])) l2 (HO.lst (ns.map V.int ++ [V.int 1]))) l3 (HO.lst (os.map V.int)) l3 = some (HO.lst (os.map V.int)) := upd_same
  have hh4 := hh3.same s4
  have ha4 := s4 _ _ ha3
  have po4 := po3.same s4
  generalize upd (upd (upd H3 l1 (HO.lst [V.int 1])) l2 (HO.lst (ns.map V.int ++ [V.int 1]))) l3 (HO.lst (os.map V.int)) = H4 at s4 e3 hh4 ha4 po4 ⊢
  clear h1 h2 h3
  refine ⟨l3, rfl, _, .inl (SqL.of e3), ⟨by decide, by decide, by decide⟩, by decide, fun t1 ht1 => ⟨by decide, fun pk hpk => ?_⟩⟩
  have hI : 0 ≤ (if (((os.map V.int).length : Nat) : Int) - 1 < pl then (((os.map V.int).length : Nat) : Int) - 1 else pl) ∧ (if (((os.map V.int).length : Nat) : Int) - 1 < pl then (((os.map V.int).length : Nat) : Int) - 1 else pl) < os.length := by
    rw [List.length_map]
    split
    · exact ⟨by omega, by omega⟩
    · exact ⟨by omega, by omega⟩
  generalize (if (((os.map V.int).length : Nat) : Int) - 1 < pl then (((os.map V.int).length : Nat) : Int) - 1 else pl) = I at hI ⊢
  obtain ⟨j, rfl⟩ := Int.eq_ofNat_of_zero_le hI.1
  have d1 := hI.2
  have s6 := (Same.new (o := HO.tup [V.int 1]) ht1).trans (Same.new (o := HO.lst [V.int 0, V.int (-1), V.int (1000000000 + 1), V.non, V.bl true, V.str (Str.ofString "1"), V.ref t1]) hpk)
  have e5 := s6 _ _ e3
  have ha6 := s6 _ _ ha4
  have hh6 := hh4.same s6
  have po6 := po4.same s6
  have t1h := hh4.off ht1
  have et := (Same.new (o := HO.lst [V.int 0, V.int (-1), V.int (1000000000 + 1), V.non, V.bl true, V.str (Str.ofString "1"), V.ref t1]) hpk) t1 _ (upd_same (H := H4) (o := HO.tup [V.int 1]))
  refine ⟨q, hh6, _, upd_same, (show 0 < 7 by decide), (show 7 ≤ 1000 by decide), (hh4.same (Same.new ht1)).off hpk, fun y H7 hy hh7 b7 => ?_⟩
  have e7 := b7 _ _ e5 n3h
  have ha7 := b7 _ _ ha6 nh
  have po7 := plain_but hh7 b7 po6
  have et7 := b7 _ _ et t1h
  have t13 : t1 ≠ l3 := fun z => by
    rw [z, e3] at ht1
    cases ht1
  have hy' : Plain H7 y ∧ whole y 1 1000000000 = false ∧ y ≠ .ref l3 := by
    simp only [List.mem_cons, List.not_mem_nil, or_false] at hy
    rcases hy with rfl | rfl | rfl | rfl | rfl | rfl | rfl
    all_goals first
      | exact ⟨True.intro, by decide +kernel, fun z => nomatch z⟩
      | exact ⟨.inl ⟨_, et7⟩, rfl, fun z => t13 (by injection z)⟩
  refine ⟨l3, rfl, _, e7, j, ?_, by decide, fun du hdu => ?_⟩
  · unfold ixN
    rw [if_pos (by omega), if_pos (by rw [List.length_map]; omega)]
    simp
  have fin : ∀ (X : V) (i : Int) (u : Str) (du : Addr) (Hx : Hp), Told Hx X i u → X ≠ .ref h → Hx du = some (.tup [.str "pool", .int i, .str u]) → du ≠ h → Plain Hx po → Hx a = some (.lst (ns.map V.int)) → HandAt Hx h q →
      tFor (iTup K (tTup (tCons (tC (V.str (Str.ofString "rooms"))) (tCons (tC (V.str (Str.ofString "fitting"))) (tCons (tC (V.str (Str.ofString "next"))) (tCons (tC (V.str (Str.ofString "put"))) tNil)))))) (gName 8)
        (tSeq (tIfS (tOr (tTest (tOp (rNeD K) (tCall (sp_l_told K) [] E0 (tCons (tVar 8) (tCons (tVar 6) (tCons (tVar 3) (tCons (tVar 4) tNil))))) (tVar 7)))
            (tTest (tOp (rNeD K) (tCall (sp_l_told K) [] E0 (tCons (tVar 8) (tCons (tVar 6) (tCons (tC (V.int 1)) (tCons (tVar 2) tNil))))) (tVar 7)))) (tRet (tC (V.bl false))) tNext)
          (tIfS (tTest (tOp (rNeD K) (tCall (sp_l_told K) [] E0 (tCons (tVar 8) (tCons (tVar 1) (tCons (tOp (rI0 fun i j => V.int (i + j)) (tC (V.int 1)) (tCall (sp_l_draw K) [] E0 (tCons (tVar 0) (tCons (tC (V.int 9)) tNil)))) (tCons (tVar 4) tNil)))))
            (tTup (tCons (tC (V.str (Str.ofString "people"))) (tCons (tC (V.int 0)) tNil))))) (tRet (tC (V.bl false))) tNext))
        { nx := tRet (tAndV (tOp (rEqD K) (tCall (sp_l_told K) [] E0 (tCons (tC (V.str (Str.ofString "put"))) (tCons (tVar 1) (tCons (tVar 3) (tCons (tVar 2) tNil))))) (tTup (tCons (tC (V.str (Str.ofString "coin"))) (tCons (tC (V.int 0)) tNil))))
            (tOp (rEqD K) (tCall (sp_l_told K) [] E0 (tCons (tC (V.str (Str.ofString "put"))) (tCons (tVar 1) (tCons (tVar 3) (tCons (tVar 4) tNil))))) (tTup (tCons (tC (V.str (Str.ofString "coin"))) (tCons (tC (V.int 0)) tNil)))))
            { nx := fun x H' => Q V.non H', rt := Q }, rt := Q }
        [some (V.ref h), some (V.ref a), some (V.int p), some oc, some po, some (V.int (j : Int)), some X, some (V.ref du), none] Hx := by
    intro X i u du Hx t nX ed nd pp ea hd
    refine ⟨by decide, fun T hT => ⟨T, rfl, ⟨_, SqT.of upd_same⟩, for_tup (K := K) (a := T) (xs := [V.str (Str.ofString "rooms"), V.str (Str.ofString "fitting"), V.str (Str.ofString "next"), V.str (Str.ofString "put")])
      (fun m z hz => ∃ w8 : Option V, z = [some (V.ref h), some (V.ref a), some (V.int p), some oc, some po, some (V.int (j : Int)), some X, some (V.ref du), w8] ∧ Told hz X i u ∧ hz du = some (.tup [.str "pool", .int i, .str u]) ∧ Plain hz po ∧ hz a = some (.lst (ns.map V.int)) ∧ HandAt hz h q ∧ hz T = some (.tup [V.str (Str.ofString "rooms"), V.str (Str.ofString "fitting"), V.str (Str.ofString "next"), V.str (Str.ofString "put")]))
      ⟨none, rfl, ?_⟩ (fun m z hz _ ⟨_, _, _, _, _, _, _, eT⟩ => SqT.of eT) ?_ ?_⟩⟩
    · have sT := Same.new (o := HO.tup [V.str (Str.ofString "rooms"), V.str (Str.ofString "fitting"), V.str (Str.ofString "next"), V.str (Str.ofString "put")]) hT
      exact ⟨t.same sT, sT _ _ ed, pp.same sT, sT _ _ ea, hd.same sT, upd_same⟩
    · rintro m y z hz hm ⟨w8, rfl, tz, edz, ppz, eaz, hdz, eT⟩
      have nT : T ≠ h := hd.off hT
      obtain ⟨nm, rfl, kd⟩ : ∃ nm, y = V.str nm ∧ KindW nm := by
        have hm := List.mem_of_getElem? hm
        simp only [List.mem_cons, List.not_mem_nil, or_false] at hm
        rcases hm with rfl | rfl | rfl | rfl
        · exact ⟨_, rfl, .inl rfl⟩
        · exact ⟨_, rfl, .inr (.inl rfl)⟩
        · exact ⟨_, rfl, .inr (.inr (.inl rfl))⟩
        · exact ⟨_, rfl, .inr (.inr (.inr rfl))⟩
      simp only [tSeq, tAsg, tDrop, tRet, tRetN, tIfS, tNext, tTest, tB, tNot, tAnd, tOr, tChain, tIf, tAndV, tOrV, tNotV, tOp, tUn, tCB, tCons, tNil, tVar, tC, tCall, tCallS, gName, rI, rI0, rU, rEq, rNe, tTup, tLst, gSub, rSetL, rIxL, rIxT, L2.start, List.map_cons, List.map_nil, List.length_cons, List.length_nil, Nat.reduceAdd, Nat.reduceSub, List.replicate_succ, List.replicate_zero, List.getElem?_cons_zero, List.getElem?_cons_succ, List.set_cons_zero, List.set_cons_succ, Option.some.injEq, exists_eq_left', exists_eq_left, exists_and_left, V.int.injEq, V.bl.injEq, V.ref.injEq, V.str.injEq, List.cons.injEq, and_true, true_and, List.nil_append, List.cons_append, List.append_nil, reduceCtorEq, false_and, exists_false, or_false, false_or, and_false, Int.reduceNeg, decide_eq_true_eq, Bool.not_eq_true', decide_eq_false_iff_not, and_assoc, tYes, ↓reduceIte, wipe, Bool.false_eq_true, Bool.true_eq_false, cxOf, false_implies, true_implies, implies_true, forall_const, spDraw]
      refine told_bad kd tz (hoc'.1 _) ppz fun Ha ra sa e1 => ne_trip e1 (sa _ _ edz) (shaped_trip i u tz.wd) ⟨false, rfl, ?_⟩
      rw [if_neg (fun z => by cases z)]
      refine told_bad kd (tz.same sa) True.intro True.intro fun Hb rb sb e2 => ne_trip e2 (sb _ _ (sa _ _ edz)) (shaped_trip i u tz.wd) ⟨false, rfl, ?_⟩
      rw [if_neg (fun z => by cases z)]
      have sab := sa.trans sb
      refine ⟨q, hdz.same sab, by decide, by decide, fun d Hc d0 d1 hdc bc => ?_⟩
      have eac := bc _ _ (sab _ _ eaz) nh
      refine ⟨nm, .ref a, .int (1 + d), po, rfl, kd, row_arg (.inr eac), True.intro, plain_but hdc bc (ppz.same sab), .inr (.inr (.inr ⟨a, ns, ⟨rfl, .inr eac, hl, nb⟩, whole_int (by omega) (by omega), po2, fun Hd rd sd _ e3 => ⟨by decide, fun v hv => ne_pair ((Same.new hv) _ _ e3) upd_same (by decide +kernel) ⟨false, rfl, ?_⟩⟩⟩))⟩
      rw [if_neg (fun z => by cases z)]
      have se := sd.trans (Same.new (o := HO.tup [V.str (Str.ofString "people"), V.int 0]) hv)
      exact ⟨(told_but hdc bc nX (tz.same sab)).same se, se _ _ (bc _ _ (sab _ _ edz) nd), (plain_but hdc bc (ppz.same sab)).same se, se _ _ eac, hdc.same se, se _ _ (bc _ _ (sab _ _ eT) nT)⟩
    · rintro z hz ⟨w8, rfl, tz, edz, ppz, eaz, hdz, eT⟩
      simp only [tSeq, tAsg, tDrop, tRet, tRetN, tIfS, tNext, tTest, tB, tNot, tAnd, tOr, tChain, tIf, tAndV, tOrV, tNotV, tOp, tUn, tCB, tCons, tNil, tVar, tC, tCall, tCallS, gName, rI, rI0, rU, rEq, rNe, tTup, tLst, gSub, rSetL, rIxL, rIxT, L2.start, List.map_cons, List.map_nil, List.length_cons, List.length_nil, Nat.reduceAdd, Nat.reduceSub, List.replicate_succ, List.replicate_zero, List.getElem?_cons_zero, List.getElem?_cons_succ, List.set_cons_zero, List.set_cons_succ, Option.some.injEq, exists_eq_left', exists_eq_left, exists_and_left, V.int.injEq, V.bl.injEq, V.ref.injEq, V.str.injEq, List.cons.injEq, and_true, true_and, List.nil_append, List.cons_append, List.append_nil, reduceCtorEq, false_and, exists_false, or_false, false_or, and_false, Int.reduceNeg, decide_eq_true_eq, Bool.not_eq_true', decide_eq_false_iff_not, and_assoc, tYes, ↓reduceIte, wipe, Bool.false_eq_true, Bool.true_eq_false, cxOf, false_implies, true_implies, implies_true, forall_const]
      refine ⟨_, .ref a, oc, .int p, rfl, .inr (.inr (.inr rfl)), row_arg (.inr eaz), hoc'.1 _, True.intro, .inr (.inr (.inl ⟨a, ns, ⟨rfl, .inr eaz, hl, nb⟩, rfl, hoc'.2, fun Ha ra sa _ e1 => ⟨by decide, fun v hv => eq_pair ((Same.new hv) _ _ e1) upd_same (by decide +kernel) ⟨_, rfl, ?_⟩⟩⟩))⟩
      rw [if_pos rfl]
      have sb := sa.trans (Same.new (o := HO.tup [V.str (Str.ofString "coin"), V.int 0]) hv)
      have eab := sb _ _ eaz
      exact ⟨_, .ref a, oc, po, rfl, .inr (.inr (.inr rfl)), row_arg (.inr eab), hoc'.1 _, ppz.same sb, .inr (.inr (.inl ⟨a, ns, ⟨rfl, .inr eab, hl, nb⟩, rfl, hoc'.2, fun Hb rb sc _ e2 => ⟨by decide, fun w hw => eq_pair ((Same.new hw) _ _ e2) upd_same (by decide +kernel) (k _)⟩⟩))⟩
  have hh7c := (handPut (o := HO.lst ((os.map V.int).set j y)) hh7 n3h n3q).same (Same.new (o := HO.tup [V.str "pool", V.int (j : Int), V.str "coin"]) hdu)
  have sc := Same.new (o := HO.tup [V.str "pool", V.int (j : Int), V.str "coin"]) hdu
  have x3 := sc l3 _ (upd_same (H := H7) (o := HO.lst ((os.map V.int).set j y)))
  have xa := sc a (HO.lst (ns.map V.int)) (by rw [upd_ne (Ne.symm n3a)]; exact ha7)
  have xpo := (plain_upd (o := HO.lst ((os.map V.int).set j y)) po7 (plain_off po3 f3)).same sc
  have xy := (plain_upd (o := HO.lst ((os.map V.int).set j y)) hy'.1 hy'.2.2).same sc
  have ndu : du ≠ h := (handPut (o := HO.lst ((os.map V.int).set j y)) hh7 n3h n3q).off hdu
  have xdu : upd (upd H7 l3 (HO.lst ((os.map V.int).set j y))) du (HO.tup [V.str "pool", V.int (j : Int), V.str "coin"]) du = some (HO.tup [V.str "pool", V.int (j : Int), V.str "coin"]) := upd_same
  generalize upd (upd H7 l3 (HO.lst ((os.map V.int).set j y))) du (HO.tup [V.str "pool", V.int (j : Int), V.str "coin"]) = Hc at hh7c sc x3 xa xpo xy xdu ⊢
  refine ⟨q, hh7c, by decide, by decide, fun d2 H8 d20 d21 hh8 b8 => ⟨rfl, ?_⟩⟩
  have z3 := b8 _ _ x3 n3h
  have za := b8 _ _ xa nh
  have zpo := plain_but hh8 b8 xpo
  have zy := plain_but hh8 b8 xy
  have zdu := b8 _ _ xdu ndu
  split
  · have r13 : ∀ x, x ∈ (List.replicate (Int.toNat 13) [V.int 1]).flatten → x = V.int 1 := fun x hx => by
      obtain ⟨l, hl, hx⟩ := List.mem_flatten.mp hx
      rw [List.eq_of_mem_replicate hl] at hx
      exact List.mem_singleton.mp hx
    have l13 : 12 < ((List.replicate (Int.toNat 13) [V.int 1]).flatten).length := by decide
    refine ⟨by decide, fun l5 h5 => ⟨l5, 13, [V.int 1], rfl, rfl, upd_same, by decide, by decide, (by show 1 * 13 ≤ sizeLine; decide), fun l6 h6 => ?_⟩⟩
    have sA := (Same.new (o := HO.lst [V.int 1]) h5).trans (Same.new (o := HO.lst (List.replicate (Int.toNat 13) [V.int 1]).flatten) h6)
    have e6 : upd (upd H8 l5 (HO.lst [V.int 1])) l6 (HO.lst (List.replicate (Int.toNat 13) [V.int 1]).flatten) l6 = some (HO.lst (List.replicate (Int.toNat 13) [V.int 1]).flatten) := upd_same
    have n6 := (hh8.same (Same.new (o := HO.lst [V.int 1]) h5)).off h6
    generalize upd (upd H8 l5 (HO.lst [V.int 1])) l6 (HO.lst (List.replicate (Int.toNat 13) [V.int 1]).flatten) = HA at sA e6 ⊢
    refine ⟨by decide, fun t5 ht5 => ⟨t5, 13, [V.int 1], rfl, rfl, SqT.of upd_same, by simp, by decide, by decide, by decide, fun t6 ht6 => ?_⟩⟩
    have sB := (Same.new (o := HO.tup [V.int 1]) ht5).trans (Same.new (o := HO.tup (List.replicate (Int.toNat 13) [V.int 1]).flatten) ht6)
    have eT : upd (upd HA t5 (HO.tup [V.int 1])) t6 (HO.tup (List.replicate (Int.toNat 13) [V.int 1]).flatten) t6 = some (HO.tup (List.replicate (Int.toNat 13) [V.int 1]).flatten) := upd_same
    have nT := ((hh8.same sA).same (Same.new (o := HO.tup [V.int 1]) ht5)).off ht6
    generalize upd (upd HA t5 (HO.tup [V.int 1])) t6 (HO.tup (List.replicate (Int.toNat 13) [V.int 1]).flatten) = HB at sB eT ⊢
    intro dd hdd
    have nD := ((hh8.same sA).same sB).off hdd
    refine ⟨by decide, fun pl2 hpl2 => ?_⟩
    have s1 := Same.new (o := HO.dK []) hdd
    have s2 := Same.new (o := HO.lst [V.non, V.int 3, V.str (Str.ofString "12"), V.ref l6, V.ref t6, V.ref dd]) hpl2
    have hhB := ((hh8.same sA).same sB)
    have hhC := (hhB.same s1).same s2
    have eD := s2 dd _ (upd_same (H := HB) (o := HO.dK []))
    have e6c := s2 _ _ (s1 _ _ (sB _ _ e6))
    have eTc := s2 _ _ (s1 _ _ eT)
    have zaC := s2 _ _ (s1 _ _ (sB _ _ (sA _ _ za)))
    have zpoC := (((zpo.same sA).same sB).same s1).same s2
    refine ⟨q, hhC, _, upd_same, (show 0 < 6 by decide), (show 6 ≤ 1000 by decide), (hhB.same s1).off hpl2, fun X H9 hX hh9 b9 => ⟨by decide, fun du2 hdu2 => ?_⟩⟩
    have s3 := Same.new (o := HO.tup [V.str "pool", V.int 0, V.str "many"]) hdu2
    have nX : X ≠ .ref h := by
      simp only [List.mem_cons, List.not_mem_nil, or_false] at hX
      rcases hX with rfl | rfl | rfl | rfl | rfl | rfl
      · exact fun z => nomatch z
      · exact fun z => nomatch z
      · exact fun z => nomatch z
      · exact fun z => n6 (by injection z)
      · exact fun z => nT (by injection z)
      · exact fun z => nD (by injection z)
    have tX : Arg H9 X ∧ ¬ FewRow H9 X := by
      simp only [List.mem_cons, List.not_mem_nil, or_false] at hX
      rcases hX with rfl | rfl | rfl | rfl | rfl | rfl
      · exact arg_no True.intro fun a z => nomatch z
      · exact arg_no True.intro fun a z => nomatch z
      · exact arg_no True.intro fun a z => nomatch z
      · have r : Row H9 l6 (List.replicate (Int.toNat 13) [V.int 1]).flatten := .inr (b9 _ _ e6c n6)
        exact ⟨arg_row r fun x hx => by rw [r13 x hx]; exact True.intro, few_row r l13⟩
      · have r : Row H9 t6 (List.replicate (Int.toNat 13) [V.int 1]).flatten := .inl (b9 _ _ eTc nT)
        exact ⟨arg_row r fun x hx => by rw [r13 x hx]; exact True.intro, few_row r l13⟩
      · exact arg_dk (b9 _ _ eD nD)
    exact fin X 0 "many" du2 _ ((show Told H9 X 0 "many" from ⟨tX.1, .inl ⟨tX.2, rfl, rfl⟩⟩).same s3) nX upd_same (hh9.off hdu2) ((plain_but hh9 b9 zpoC).same s3) (s3 _ _ (b9 _ _ zaC nh)) (hh9.same s3)
  · refine fin (.ref l3) j "coin" du H8 ⟨arg_row (.inr z3) fun x hx => ?_, .inr ⟨l3, _, j, y, ⟨rfl, .inr z3, by rw [List.length_set, List.length_map]; exact ol.2, fun m x hm hx => ?_, by rw [List.getElem?_set_self (by rw [List.length_map]; omega)], hy'.2.1⟩, rfl, rfl⟩⟩ (fun z => n3h (by injection z)) zdu ndu zpo za hh8
    · rcases List.mem_or_eq_of_mem_set hx with hx | rfl
      · obtain ⟨n, _, rfl⟩ := List.mem_map.mp hx
        exact True.intro
      · exact zy
    · rw [List.getElem?_set_ne (Nat.ne_of_gt hm)] at hx
      obtain ⟨n, hn, rfl⟩ := nat_map hx
      have nb := ob n (List.mem_of_getElem? hn)
      exact whole_int nb.1 nb.2
end
end My
set_option Elab.async false
set_option linter.all false
set_option maxRecDepth 100000
set_option maxHeartbeats 4000000
namespace My
open PySem PySem.Spec PyProof.Rows L2 Gen
section
variable {P : Program} {w : World} {K : PySem.W.Frag} {mg : Str → Option Value} {base : Heap} { cBadPool cBadPeople cBadCoin : Addr}
theorem FitV.same {H H' : Hp} {v : V} {r : Option (Int × Int)} (f : FitV H v r) (s : Same H H') : FitV H' v r := by
  cases r with
  | none => exact f
  | some lu =>
    obtain ⟨b, e, h⟩ := f
    exact ⟨b, e, s _ _ h⟩
theorem ne_fit {H : Hp} {v u : V} {r : Option (Int × Int)} {Q : VK} (a : FitV H v r) (b : FitV H u r) (q : Q (.bl false) H) : rNeD K v u H Q := by
  cases r with
  | none =>
    have ea : v = .non := a
    have eb : u = .non := b
    subst ea eb
    refine ⟨.none, .none, .non, .non, by decide +kernel, by decide +kernel, ?_⟩
    have e : PyData.eqv .none .none = true := by simp [PyData.eqv]
    rw [e]
    exact q
  | some lu =>
    obtain ⟨b1, e1, h1⟩ := a
    obtain ⟨b2, e2, h2⟩ := b
    subst e1 e2
    exact ne_tupI (ns := [lu.1, lu.2]) (ms := [lu.1, lu.2]) h1 h2 (by rw [decide_eq_true rfl]; exact q)
def sp_law (K : PySem.W.Frag) : Sp := fun vs H Q _ => ∃ (a : Addr) (ns : List Int), vs = [.ref a] ∧ SqL K H a (ns.map V.int) ∧ ns.length ≤ 63 ∧ ∀ H', Q (.bl true) H'
theorem len_law {vs H Q E} (h : sp_law K vs H Q E) : vs.length = 1 := by
  obtain ⟨_, _, rfl, _⟩ := h; rfl
theorem ok_law {f : Addr} {fd : FuncData} (F : Fun K "law" "law" s_law f fd) (T : Txt K mg cBadPool cBadPeople cBadCoin) : FnOk P w K mg base CX0 8 f fd ps_law (sp_law K) := by
  obtain ⟨f_l_hand, fd_l_hand, F_l_hand, m_l_hand, b_l_hand⟩ := T.d_l_hand
  have G_l_hand : FnOk P w K mg base CX0 1 f_l_hand fd_l_hand ps_l_hand (sp_l_hand K) := ok_l_hand F_l_hand T
  obtain ⟨f_l_refusals_right, fd_l_refusals_right, F_l_refusals_right, m_l_refusals_right, b_l_refusals_right⟩ := T.d_l_refusals_right
  have G_l_refusals_right : FnOk P w K mg base CX0 7 f_l_refusals_right fd_l_refusals_right ps_l_refusals_right (sp_l_refusals_right K) := ok_l_refusals_right F_l_refusals_right T
  obtain ⟨f_l_draw, fd_l_draw, F_l_draw, m_l_draw, b_l_draw⟩ := T.d_l_draw
  have G_l_draw : FnOk P w K mg base CX0 2 f_l_draw fd_l_draw ps_l_draw (sp_l_draw K) := ok_l_draw F_l_draw T
  obtain ⟨f_l_pool, fd_l_pool, F_l_pool, m_l_pool, b_l_pool⟩ := T.d_l_pool
  have G_l_pool : FnOk P w K mg base CX0 3 f_l_pool fd_l_pool ps_l_pool (sp_l_pool K) := ok_l_pool F_l_pool T
  obtain ⟨f_l_robbed, fd_l_robbed, F_l_robbed, m_l_robbed, b_l_robbed⟩ := T.d_l_robbed
  have G_l_robbed : FnOk P w K mg base CX0 3 f_l_robbed fd_l_robbed ps_l_robbed (sp_l_robbed K) := ok_l_robbed F_l_robbed T
  obtain ⟨f_l_rooms_right, fd_l_rooms_right, F_l_rooms_right, m_l_rooms_right, b_l_rooms_right⟩ := T.d_l_rooms_right
  have G_l_rooms_right : FnOk P w K mg base CX0 5 f_l_rooms_right fd_l_rooms_right ps_l_rooms_right (sp_l_rooms_right K) := ok_l_rooms_right F_l_rooms_right T
  obtain ⟨f_l_stretch_right, fd_l_stretch_right, F_l_stretch_right, m_l_stretch_right, b_l_stretch_right⟩ := T.d_l_stretch_right
  have G_l_stretch_right : FnOk P w K mg base CX0 6 f_l_stretch_right fd_l_stretch_right ps_l_stretch_right (sp_l_stretch_right K) := ok_l_stretch_right F_l_stretch_right T
  obtain ⟨f_fitting_coins, fd_fitting_coins, F_fitting_coins, m_fitting_coins, b_fitting_coins⟩ := T.d_fitting_coins
  have G_fitting_coins : FnOk P w K mg base (L2.CX P w) 4 f_fitting_coins fd_fitting_coins ps_fitting_coins (sp_fitting_coins K cBadPool cBadPeople) := ok_fitting_coins F_fitting_coins T
  refine F.ok (k := 7) sc_law (fun vs H Q E h => len_law h) (fun cdv A outer s H vs Q E hr h => ?_)
  refine ⟨_, (pss_cons (ps_set (i := 1) sc_law.nd rfl (Or.inl rfl) (pe_call G_l_hand (hr.mono (by decide)) (by rfl) m_l_hand F_l_hand.kp b_l_hand .nil pass0 (pa_cons (pv 0) pa_nil)))
      (pss_cons (ps_set (i := 2) sc_law.nd rfl (Or.inl rfl) (pe_op op_add pe_int (pe_call G_l_draw (hr.mono (by decide)) (by rfl) m_l_draw F_l_draw.kp b_l_draw .nil pass0 (pa_cons (pv 1) (pa_cons pe_int pa_nil)))))
      (pss_cons (ps_set (i := 3) sc_law.nd rfl (Or.inl rfl) (pe_lst pa_nil))
      (pss_cons (ps_for PassesOwn.never rfl (pi_tup (pe_tup (pa_cons pe_int (pa_cons pe_int (pa_cons pe_int pa_nil))))) (pg_name (i := 4) sc_law.nd rfl (Or.inl rfl))
      (pss_cons (ps_set (i := 3) sc_law.nd rfl (Or.inl rfl) (pe_call G_l_pool (hr.mono (by decide)) (by rfl) m_l_pool F_l_pool.kp b_l_pool .nil pass0 (pa_cons (pv 1) (pa_cons (pv 2) (pa_cons (pv 4) pa_nil)))))
      (pss_cons (ps_if (pt_cmpR op_eq (pe_call G_l_draw (hr.mono (by decide)) (by rfl) m_l_draw F_l_draw.kp b_l_draw .nil pass0 (pa_cons (pv 1) (pa_cons pe_int pa_nil))) pe_int (nomark _)) (pss_one (ps_set (i := 3) sc_law.nd rfl (Or.inl rfl) (pe_call G_l_robbed (hr.mono (by decide)) (by rfl) m_l_robbed F_l_robbed.kp b_l_robbed .nil pass0 (pa_cons (pv 1) (pa_cons (pv 3) pa_nil))))) pss_nil)
      (pss_cons (ps_set (i := 5) sc_law.nd rfl (Or.inl rfl) (pe_callTy call_list_of (by rfl) T.n_list (by decide +kernel) (pa_cons (pv 3) pa_nil)))
      (pss_cons (ps_if (PW.pt (pw_or (pt_not (pt_val (pe_call G_l_rooms_right (hr.mono (by decide)) (by rfl) m_l_rooms_right F_l_rooms_right.kp b_l_rooms_right .nil pass0 (pa_cons (pv 3) (pa_cons (pv 2) pa_nil))))) (pw_or1 (pt_not (pt_val (pe_call G_l_stretch_right (hr.mono (by decide)) (by rfl) m_l_stretch_right F_l_stretch_right.kp b_l_stretch_right .nil pass0 (pa_cons (pv 1) (pa_cons (pv 3) (pa_cons (pv 2) pa_nil))))))))) (pss_one (ps_ret pe_bl)) pss_nil)
      (pss_cons (ps_if (PW.pt (pw_or (pt_not (pt_val (pe_call G_l_rooms_right (hr.mono (by decide)) (by rfl) m_l_rooms_right F_l_rooms_right.kp b_l_rooms_right .nil pass0 (pa_cons (pe_callTy call_tuple_of (by rfl) T.n_tuple (by decide +kernel) (pa_cons (pv 3) pa_nil)) (pa_cons (pv 2) pa_nil))))) (pw_or1 (pt_cmpR (op_neD hr.units) (pe_call G_fitting_coins (hr.mono (by decide)) (by rfl) m_fitting_coins F_fitting_coins.kp b_fitting_coins .nil passL (pa_cons (pe_callTy call_tuple_of (by rfl) T.n_tuple (by decide +kernel) (pa_cons (pv 3) pa_nil)) (pa_cons (pv 2) pa_nil))) (pe_call G_fitting_coins (hr.mono (by decide)) (by rfl) m_fitting_coins F_fitting_coins.kp b_fitting_coins .nil passL (pa_cons (pe_callB cr_sortedE (by rfl) T.n_sorted (by decide +kernel) (pa_cons (pv 3) pa_nil)) (pa_cons (pv 2) pa_nil))) (nomark _))))) (pss_one (ps_ret pe_bl)) pss_nil)
      (pss_one (ps_if (pt_cmpR (op_neD hr.units) (pv 3) (pv 5) (nomark _)) (pss_one (ps_ret pe_bl)) pss_nil))))))))
      (pss_one (ps_ret (pe_call G_l_refusals_right (hr.mono (by decide)) (by rfl) m_l_refusals_right F_l_refusals_right.kp b_l_refusals_right .nil pass0 (pa_cons (pv 1) (pa_cons (pv 3) (pa_cons (pv 2) pa_nil)))))))))), ?_⟩
  obtain ⟨a, ns, rfl, hS, hn, k⟩ := h
  simp only [tSeq, tAsg, tDrop, tRet, tRetN, tIfS, tNext, tTest, tB, tNot, tAnd, tOr, tChain, tIf, tAndV, tOrV, tNotV, tOp, tUn, tCB, tCons, tNil, tVar, tC, tCall, tCallS, gName, rI, rI0, rU, rEq, rNe, tTup, tLst, gSub, rSetL, rIxL, rIxT, L2.start, List.map_cons, List.map_nil, List.length_cons, List.length_nil, Nat.reduceAdd, Nat.reduceSub, List.replicate_succ, List.replicate_zero, List.getElem?_cons_zero, List.getElem?_cons_succ, List.set_cons_zero, List.set_cons_succ, Option.some.injEq, exists_eq_left', exists_eq_left, exists_and_left, V.int.injEq, V.bl.injEq, V.ref.injEq, V.str.injEq, List.cons.injEq, and_true, true_and, List.nil_append, List.cons_append, List.append_nil, reduceCtorEq, false_and, exists_false, or_false, false_or, and_false, Int.reduceNeg, decide_eq_true_eq, Bool.not_eq_true', decide_eq_false_iff_not, and_assoc, tYes, ↓reduceIte, wipe, Bool.false_eq_true, Bool.true_eq_false, cxOf, false_implies, true_implies, implies_true, forall_const, spHand, spDraw]
  refine ⟨ns, hS, hn, fun h q H1 s1 hh1 => ⟨q, hh1, by decide, by decide, fun d H2 d0 d1 hh2 b2 => ?_⟩⟩
  refine ⟨Nat.zero_le _, fun B hB => ?_⟩
  have nB := hh2.off hB
  have hh3 := hh2.same (Same.new (o := HO.lst []) hB)
  have eB : upd H2 B (HO.lst []) B = some (.lst (([] : List Int).map V.int)) := upd_same
  generalize upd H2 B (HO.lst []) = H3 at hh3 eB ⊢
  refine ⟨by decide, fun T hT => ⟨T, rfl, ⟨_, SqT.of upd_same⟩, for_tup (K := K) (a := T) (xs := [V.int 3, V.int 5, V.int 12])
    (fun m z hz => ∃ (C : Addr) (ms : List Int) (w4 w5 : Option V), z = [some (V.ref a), some (V.ref h), some (V.int (2 + d)), some (V.ref C), w4, w5] ∧ HandAt hz h q ∧ hz C = some (.lst (ms.map V.int)) ∧ C ≠ h ∧ ms.length ≤ 12 ∧ (∀ n, n ∈ ms → 1 ≤ n ∧ n ≤ 1000000000) ∧ hz T = some (.tup [V.int 3, V.int 5, V.int 12]))
    ⟨B, [], none, none, rfl, hh3.same (Same.new hT), (Same.new hT) _ _ eB, nB, by decide, fun n hn => absurd hn List.not_mem_nil, upd_same⟩ (fun m z hz _ ⟨_, _, _, _, _, _, _, _, _, _, eT⟩ => SqT.of eT) ?_ ?_⟩⟩
  · rintro m y z hz hm ⟨C, ms, w4, w5, rfl, hd, eC, nC, ml, mb, eT⟩
    have nT : T ≠ h := hh3.off hT
    obtain ⟨M, rfl, M0, M1⟩ : ∃ M : Int, y = V.int M ∧ 0 ≤ M ∧ M ≤ 12 := by
      have hm := List.mem_of_getElem? hm
      simp only [List.mem_cons, List.not_mem_nil, or_false] at hm
      rcases hm with rfl | rfl | rfl
      · exact ⟨_, rfl, by decide, by decide⟩
      · exact ⟨_, rfl, by decide, by decide⟩
      · exact ⟨_, rfl, by decide, by decide⟩
    simp only [tSeq, tAsg, tDrop, tRet, tRetN, tIfS, tNext, tTest, tB, tNot, tAnd, tOr, tChain, tIf, tAndV, tOrV, tNotV, tOp, tUn, tCB, tCons, tNil, tVar, tC, tCall, tCallS, gName, rI, rI0, rU, rEq, rNe, tTup, tLst, gSub, rSetL, rIxL, rIxT, L2.start, List.map_cons, List.map_nil, List.length_cons, List.length_nil, Nat.reduceAdd, Nat.reduceSub, List.replicate_succ, List.replicate_zero, List.getElem?_cons_zero, List.getElem?_cons_succ, List.set_cons_zero, List.set_cons_succ, Option.some.injEq, exists_eq_left', exists_eq_left, exists_and_left, V.int.injEq, V.bl.injEq, V.ref.injEq, V.str.injEq, List.cons.injEq, and_true, true_and, List.nil_append, List.cons_append, List.append_nil, reduceCtorEq, false_and, exists_false, or_false, false_or, and_false, Int.reduceNeg, decide_eq_true_eq, Bool.not_eq_true', decide_eq_false_iff_not, and_assoc, tYes, ↓reduceIte, wipe, Bool.false_eq_true, Bool.true_eq_false, cxOf, false_implies, true_implies, implies_true, forall_const, spDraw]
    refine ⟨h, q, 2 + d, M, rfl, hd, by omega, by omega, M0, M1, fun Hx A ks hdA bA eA nA lA mA => ⟨q, hdA, by decide, by decide, fun d2 Hy d20 d21 hdB bB => ⟨rfl, ?_⟩⟩⟩
    have eA' := bB _ _ eA nA
    have eTy := bB _ _ (bA _ _ eT nT) nT
    split
    refine ⟨h, q, A, ks, rfl, hdB, eA', nA, lA, mA, fun Hy A ks hdB bC eA' nA lA mA => ?_⟩
    have eTy := bC _ _ eTy nT
    rotate_left
    all_goals
      refine ⟨A, rfl, _, .inl (SqL.of eA'), fun kp hkp => ?_⟩
      have sk := Same.new (o := HO.lst (ks.map V.int)) hkp
      have ek : upd Hy kp (HO.lst (ks.map V.int)) kp = some (.lst (ks.map V.int)) := upd_same
      have eAk := sk _ _ eA'
      have eTk := sk _ _ eTy
      have hdk := hdB.same sk
      have nkp : kp ≠ h := hdB.off hkp
      generalize upd Hy kp (HO.lst (ks.map V.int)) = Hk at sk ek eAk eTk hdk ⊢
      have oA : ∀ Hw, Hw A = some (.lst (ks.map V.int)) → PoolOk Hw (.ref A) A ks := fun Hw e => ⟨rfl, .inr e, lA, mA⟩
      refine ⟨A, ks, 2 + d, rfl, oA _ eAk, by omega, by omega, fun Hl sl => ⟨_, rfl, ?_⟩⟩
      rw [if_neg (fun z => by cases z)]
      refine ⟨h, q, A, ks, 2 + d, rfl, hdk.same sl, nA, oA _ (sl _ _ eAk), by omega, by omega, fun Hm hdm bm => ⟨_, rfl, ?_⟩⟩
      rw [if_neg (fun z => by cases z)]
      have eAm := bm _ _ (sl _ _ eAk) nA
      have ekm := bm _ _ (sl _ _ ek) nkp
      have eTm := bm _ _ (sl _ _ eTk) nT
      refine ⟨A, rfl, _, .inl ⟨SqL.of eAm, fun tp htp => ?_⟩⟩
      have st := Same.new (o := HO.tup (ks.map V.int)) htp
      refine ⟨tp, ks, 2 + d, rfl, ⟨rfl, .inl upd_same, lA, mA⟩, by omega, by omega, fun Hn sn => ⟨_, rfl, ?_⟩⟩
      rw [if_neg (fun z => by cases z)]
      have s1n := st.trans sn
      refine ⟨A, rfl, _, .inl ⟨SqL.of (s1n _ _ eAm), fun tq htq => ?_⟩⟩
      have su := Same.new (o := HO.tup (ks.map V.int)) htq
      refine fit_call (a := tq) (ns := ks) ⟨rfl, .inl upd_same, lA, mA⟩ (by omega) (by omega) fun Ho v1 m1 r1 so1 f1 g1 pm1 sm1 => ?_
      have s2n := s1n.trans (su.trans so1)
      refine ⟨A, ks, rfl, .inl (SqL.of (s2n _ _ eAm)), fun zs zp z1 z2 hzp => ?_⟩
      have sv := Same.new (o := HO.lst (zs.map V.int)) hzp
      refine fit_call (a := zp) (ns := zs) ⟨rfl, .inr upd_same, by rw [z1.length_eq]; exact lA, fun n hn => mA n (z1.mem_iff.mp hn)⟩ (by omega) (by omega) fun Hp v2 m2 r2 so2 f2 g2 pm2 sm2 => ?_
      have s3n := s2n.trans (sv.trans so2)
      have em := PySem.W.os_sorted_one ((pm2.trans z1).trans pm1.symm) sm2 sm1
      subst em
      have er := fits_uniq g2 g1
      subst er
      refine ne_fit (f1.same (sv.trans so2)) f2 ⟨_, rfl, ?_⟩
      rw [if_neg (fun z => by cases z)]
      refine ne_listI (SqL.of (s3n _ _ eAm)) (SqL.of (s3n _ _ ekm)) ⟨_, rfl, ?_⟩
      rw [decide_eq_true rfl, if_neg (fun z => by cases z)]
      exact ⟨A, rfl, hdm.same s3n, ks, s3n _ _ eAm, nA, lA, mA, s3n _ _ eTm⟩
  · rintro z hz ⟨C, ms, w4, w5, rfl, hd, eC, nC, ml, mb, eT⟩
    exact ⟨_, rfl, _, rfl, _, rfl, h, q, C, ms, 2 + d, rfl, hd, eC, nC, ml, mb, by omega, by omega, fun H' => k H'⟩
end
end My
set_option Elab.async false
set_option linter.all false
set_option maxRecDepth 100000
set_option maxHeartbeats 8000000
namespace My
open PySem PySem.Spec PyProof.Rows L2 Gen
theorem all_mk {l : PySem.W.OpenLaw} {w : World} {K : PySem.W.Frag} {h : Heap} {mg : Str → Option Value} {fa : Addr}
    {cBadPool cBadPeople cBadCoin : Addr}
    {a1 : Addr} {od1 an1 : Option Addr} {sl1 : Array (Option Value)} {oc1 kV1 dc1 pm1 cd1 ct1 : Value}
    {a2 : Addr} {od2 an2 : Option Addr} {sl2 : Array (Option Value)} {oc2 kV2 dc2 pm2 cd2 ct2 : Value}
    {a3 : Addr} {od3 an3 : Option Addr} {sl3 : Array (Option Value)} {oc3 kV3 dc3 pm3 cd3 ct3 : Value}
    {a4 : Addr} {od4 an4 : Option Addr} {sl4 : Array (Option Value)} {oc4 kV4 dc4 pm4 cd4 ct4 : Value}
    {a5 : Addr} {od5 an5 : Option Addr} {sl5 : Array (Option Value)} {oc5 kV5 dc5 pm5 cd5 ct5 : Value}
    {a6 : Addr} {od6 an6 : Option Addr} {sl6 : Array (Option Value)} {oc6 kV6 dc6 pm6 cd6 ct6 : Value}
    {dT6 : Addr} {dd6 : Option Addr} {dn6 : Nat} {dsl6 : Array (Option Value)} {dt6_0 : Tok}
    {a7 : Addr} {od7 an7 : Option Addr} {sl7 : Array (Option Value)} {oc7 kV7 dc7 pm7 cd7 ct7 : Value}
    {a8 : Addr} {od8 an8 : Option Addr} {sl8 : Array (Option Value)} {oc8 kV8 dc8 pm8 cd8 ct8 : Value}
    {a9 : Addr} {od9 an9 : Option Addr} {sl9 : Array (Option Value)} {oc9 kV9 dc9 pm9 cd9 ct9 : Value}
    {a10 : Addr} {od10 an10 : Option Addr} {sl10 : Array (Option Value)} {oc10 kV10 dc10 pm10 cd10 ct10 : Value}
    {a11 : Addr} {od11 an11 : Option Addr} {sl11 : Array (Option Value)} {oc11 kV11 dc11 pm11 cd11 ct11 : Value}
    {a12 : Addr} {od12 an12 : Option Addr} {sl12 : Array (Option Value)} {oc12 kV12 dc12 pm12 cd12 ct12 : Value}
    {a13 : Addr} {od13 an13 : Option Addr} {sl13 : Array (Option Value)} {oc13 kV13 dc13 pm13 cd13 ct13 : Value}
    {a14 : Addr} {od14 an14 : Option Addr} {sl14 : Array (Option Value)} {oc14 kV14 dc14 pm14 cd14 ct14 : Value}
    {a15 : Addr} {od15 an15 : Option Addr} {sl15 : Array (Option Value)} {oc15 kV15 dc15 pm15 cd15 ct15 : Value}
    {a16 : Addr} {od16 an16 : Option Addr} {sl16 : Array (Option Value)} {oc16 kV16 dc16 pm16 cd16 ct16 : Value}
    {a17 : Addr} {od17 an17 : Option Addr} {sl17 : Array (Option Value)} {oc17 kV17 dc17 pm17 cd17 ct17 : Value}
    {a18 : Addr} {od18 an18 : Option Addr} {sl18 : Array (Option Value)} {oc18 kV18 dc18 pm18 cd18 ct18 : Value}
    {a19 : Addr} {od19 an19 : Option Addr} {sl19 : Array (Option Value)} {oc19 kV19 dc19 pm19 cd19 ct19 : Value}
    {a20 : Addr} {od20 an20 : Option Addr} {sl20 : Array (Option Value)} {oc20 kV20 dc20 pm20 cd20 ct20 : Value}
    {a21 : Addr} {od21 an21 : Option Addr} {sl21 : Array (Option Value)} {oc21 kV21 dc21 pm21 cd21 ct21 : Value}
    {a22 : Addr} {od22 an22 : Option Addr} {sl22 : Array (Option Value)} {oc22 kV22 dc22 pm22 cd22 ct22 : Value}
    {a23 : Addr} {od23 an23 : Option Addr} {sl23 : Array (Option Value)} {oc23 kV23 dc23 pm23 cd23 ct23 : Value}
    {a24 : Addr} {od24 an24 : Option Addr} {sl24 : Array (Option Value)} {oc24 kV24 dc24 pm24 cd24 ct24 : Value}
    {a25 : Addr} {od25 an25 : Option Addr} {sl25 : Array (Option Value)} {oc25 kV25 dc25 pm25 cd25 ct25 : Value}
    {a26 : Addr} {od26 an26 : Option Addr} {sl26 : Array (Option Value)} {oc26 kV26 dc26 pm26 cd26 ct26 : Value}
    {a27 : Addr} {od27 an27 : Option Addr} {sl27 : Array (Option Value)} {oc27 kV27 dc27 pm27 cd27 ct27 : Value}
    {a28 : Addr} {od28 an28 : Option Addr} {sl28 : Array (Option Value)} {oc28 kV28 dc28 pm28 cd28 ct28 : Value}
    {a29 : Addr} {od29 an29 : Option Addr} {sl29 : Array (Option Value)} {oc29 kV29 dc29 pm29 cd29 ct29 : Value}
    {a30 : Addr} {od30 an30 : Option Addr} {sl30 : Array (Option Value)} {oc30 kV30 dc30 pm30 cd30 ct30 : Value}
    {a31 : Addr} {od31 an31 : Option Addr} {sl31 : Array (Option Value)} {oc31 kV31 dc31 pm31 cd31 ct31 : Value}
    {a32 : Addr} {od32 an32 : Option Addr} {sl32 : Array (Option Value)} {oc32 kV32 dc32 pm32 cd32 ct32 : Value}
    {tk_MOST_COINS : Tok}
    {tk_GREATEST_COIN : Tok}
    {tk_MOST_PEOPLE : Tok}
    {tk_LEAST_PEOPLE : Tok}
    {nm_BadPool q_BadPool : Str} {N_BadPool B_BadPool : Addr} {bs_BadPool : List Value} {sn_BadPool : List Str} {sub_BadPool : List Value} {ab_BadPool : Bool} {col_BadPool : Option Bool} {dd_BadPool : Option Addr} {m0_BadPool m1_BadPool m2_BadPool m3_BadPool m5_BadPool : Option Value} (X : K.In h) (G : h.Ns mainGlobals mg) (hfa : mg "law" = some (.ref fa))
    (g_BadPool : PySem.W.nsIn K mainGlobals "BadPool" = some (some (.ref cBadPool)))
    (g_BadPeople : PySem.W.nsIn K mainGlobals "BadPeople" = some (some (.ref cBadPeople)))
    (g_BadCoin : PySem.W.nsIn K mainGlobals "BadCoin" = some (some (.ref cBadCoin)))
    (a_i_BadPool : PySem.W.findIn K (.ref cBadPool) "__init__" = some (some (.ref a1)))
    (l_i_BadPool : K.lookup a1 = some ⟨oc1, od1, .func (PySem.W.fnOf "__init__" "BadPool.__init__" (defArgs s_i_BadPool) (defBody s_i_BadPool) (defScope s_i_BadPool) .none kV1 dc1 pm1 an1 cd1 ct1), sl1⟩)
    (c_i_BadPool : PySem.W.codeIn K cd1 "BadPool.__init__" = true)
    (k_i_BadPool : PySem.W.keepIn K (.ref a1) = true)
    (t_i_BadPool : PySem.W.typeIn K (.ref a1) = some (.type "function"))
    (a_is_number : PySem.W.nsIn K mainGlobals "is_number" = some (some (.ref a2)))
    (l_is_number : K.lookup a2 = some ⟨oc2, od2, .func (PySem.W.fnOf "is_number" "is_number" (defArgs s_is_number) (defBody s_is_number) (defScope s_is_number) .none kV2 dc2 pm2 an2 cd2 ct2), sl2⟩)
    (c_is_number : PySem.W.codeIn K cd2 "is_number" = true)
    (k_is_number : PySem.W.keepIn K (.ref a2) = true)
    (a_is_whole : PySem.W.nsIn K mainGlobals "is_whole" = some (some (.ref a3)))
    (l_is_whole : K.lookup a3 = some ⟨oc3, od3, .func (PySem.W.fnOf "is_whole" "is_whole" (defArgs s_is_whole) (defBody s_is_whole) (defScope s_is_whole) .none kV3 dc3 pm3 an3 cd3 ct3), sl3⟩)
    (c_is_whole : PySem.W.codeIn K cd3 "is_whole" = true)
    (k_is_whole : PySem.W.keepIn K (.ref a3) = true)
    (a_is_row : PySem.W.nsIn K mainGlobals "is_row" = some (some (.ref a4)))
    (l_is_row : K.lookup a4 = some ⟨oc4, od4, .func (PySem.W.fnOf "is_row" "is_row" (defArgs s_is_row) (defBody s_is_row) (defScope s_is_row) .none kV4 dc4 pm4 an4 cd4 ct4), sl4⟩)
    (c_is_row : PySem.W.codeIn K cd4 "is_row" = true)
    (k_is_row : PySem.W.keepIn K (.ref a4) = true)
    (a_check_pool : PySem.W.nsIn K mainGlobals "check_pool" = some (some (.ref a5)))
    (l_check_pool : K.lookup a5 = some ⟨oc5, od5, .func (PySem.W.fnOf "check_pool" "check_pool" (defArgs s_check_pool) (defBody s_check_pool) (defScope s_check_pool) .none kV5 dc5 pm5 an5 cd5 ct5), sl5⟩)
    (c_check_pool : PySem.W.codeIn K cd5 "check_pool" = true)
    (k_check_pool : PySem.W.keepIn K (.ref a5) = true)
    (a_check_people : PySem.W.nsIn K mainGlobals "check_people" = some (some (.ref a6)))
    (l_check_people : K.lookup a6 = some ⟨oc6, od6, .func (PySem.W.fnOf "check_people" "check_people" (defArgs s_check_people) (defBody s_check_people) (defScope s_check_people) (.ref dT6) kV6 dc6 pm6 an6 cd6 ct6), sl6⟩)
    (t_check_people : K.lookup dT6 = some ⟨.type "tuple", dd6, .seq #[.int 1 dt6_0] dn6, dsl6⟩)
    (c_check_people : PySem.W.codeIn K cd6 "check_people" = true)
    (k_check_people : PySem.W.keepIn K (.ref a6) = true)
    (a_sums_ahead : PySem.W.nsIn K mainGlobals "sums_ahead" = some (some (.ref a7)))
    (l_sums_ahead : K.lookup a7 = some ⟨oc7, od7, .func (PySem.W.fnOf "sums_ahead" "sums_ahead" (defArgs s_sums_ahead) (defBody s_sums_ahead) (defScope s_sums_ahead) .none kV7 dc7 pm7 an7 cd7 ct7), sl7⟩)
    (c_sums_ahead : PySem.W.codeIn K cd7 "sums_ahead" = true)
    (k_sums_ahead : PySem.W.keepIn K (.ref a7) = true)
    (a_check_coin : PySem.W.nsIn K mainGlobals "check_coin" = some (some (.ref a8)))
    (l_check_coin : K.lookup a8 = some ⟨oc8, od8, .func (PySem.W.fnOf "check_coin" "check_coin" (defArgs s_check_coin) (defBody s_check_coin) (defScope s_check_coin) .none kV8 dc8 pm8 an8 cd8 ct8), sl8⟩)
    (c_check_coin : PySem.W.codeIn K cd8 "check_coin" = true)
    (k_check_coin : PySem.W.keepIn K (.ref a8) = true)
    (a_room_at : PySem.W.nsIn K mainGlobals "room_at" = some (some (.ref a9)))
    (l_room_at : K.lookup a9 = some ⟨oc9, od9, .func (PySem.W.fnOf "room_at" "room_at" (defArgs s_room_at) (defBody s_room_at) (defScope s_room_at) .none kV9 dc9 pm9 an9 cd9 ct9), sl9⟩)
    (c_room_at : PySem.W.codeIn K cd9 "room_at" = true)
    (k_room_at : PySem.W.keepIn K (.ref a9) = true)
    (a_is_serving : PySem.W.nsIn K mainGlobals "is_serving" = some (some (.ref a10)))
    (l_is_serving : K.lookup a10 = some ⟨oc10, od10, .func (PySem.W.fnOf "is_serving" "is_serving" (defArgs s_is_serving) (defBody s_is_serving) (defScope s_is_serving) .none kV10 dc10 pm10 an10 cd10 ct10), sl10⟩)
    (c_is_serving : PySem.W.codeIn K cd10 "is_serving" = true)
    (k_is_serving : PySem.W.keepIn K (.ref a10) = true)
    (a_places_above : PySem.W.nsIn K mainGlobals "places_above" = some (some (.ref a11)))
    (l_places_above : K.lookup a11 = some ⟨oc11, od11, .func (PySem.W.fnOf "places_above" "places_above" (defArgs s_places_above) (defBody s_places_above) (defScope s_places_above) .none kV11 dc11 pm11 an11 cd11 ct11), sl11⟩)
    (c_places_above : PySem.W.codeIn K cd11 "places_above" = true)
    (k_places_above : PySem.W.keepIn K (.ref a11) = true)
    (a_room_row : PySem.W.nsIn K mainGlobals "room_row" = some (some (.ref a12)))
    (l_room_row : K.lookup a12 = some ⟨oc12, od12, .func (PySem.W.fnOf "room_row" "room_row" (defArgs s_room_row) (defBody s_room_row) (defScope s_room_row) .none kV12 dc12 pm12 an12 cd12 ct12), sl12⟩)
    (c_room_row : PySem.W.codeIn K cd12 "room_row" = true)
    (k_room_row : PySem.W.keepIn K (.ref a12) = true)
    (a_fitting_coins : PySem.W.nsIn K mainGlobals "fitting_coins" = some (some (.ref a13)))
    (l_fitting_coins : K.lookup a13 = some ⟨oc13, od13, .func (PySem.W.fnOf "fitting_coins" "fitting_coins" (defArgs s_fitting_coins) (defBody s_fitting_coins) (defScope s_fitting_coins) .none kV13 dc13 pm13 an13 cd13 ct13), sl13⟩)
    (c_fitting_coins : PySem.W.codeIn K cd13 "fitting_coins" = true)
    (k_fitting_coins : PySem.W.keepIn K (.ref a13) = true)
    (a_next_coin : PySem.W.nsIn K mainGlobals "next_coin" = some (some (.ref a14)))
    (l_next_coin : K.lookup a14 = some ⟨oc14, od14, .func (PySem.W.fnOf "next_coin" "next_coin" (defArgs s_next_coin) (defBody s_next_coin) (defScope s_next_coin) .none kV14 dc14 pm14 an14 cd14 ct14), sl14⟩)
    (c_next_coin : PySem.W.codeIn K cd14 "next_coin" = true)
    (k_next_coin : PySem.W.keepIn K (.ref a14) = true)
    (a_may_put : PySem.W.nsIn K mainGlobals "may_put" = some (some (.ref a15)))
    (l_may_put : K.lookup a15 = some ⟨oc15, od15, .func (PySem.W.fnOf "may_put" "may_put" (defArgs s_may_put) (defBody s_may_put) (defScope s_may_put) .none kV15 dc15 pm15 an15 cd15 ct15), sl15⟩)
    (c_may_put : PySem.W.codeIn K cd15 "may_put" = true)
    (k_may_put : PySem.W.keepIn K (.ref a15) = true)
    (a_l_mix : PySem.W.nsIn K mainGlobals "_law_mix" = some (some (.ref a16)))
    (l_l_mix : K.lookup a16 = some ⟨oc16, od16, .func (PySem.W.fnOf "_law_mix" "_law_mix" (defArgs s_l_mix) (defBody s_l_mix) (defScope s_l_mix) .none kV16 dc16 pm16 an16 cd16 ct16), sl16⟩)
    (c_l_mix : PySem.W.codeIn K cd16 "_law_mix" = true)
    (k_l_mix : PySem.W.keepIn K (.ref a16) = true)
    (a_l_hand : PySem.W.nsIn K mainGlobals "_law_hand" = some (some (.ref a17)))
    (l_l_hand : K.lookup a17 = some ⟨oc17, od17, .func (PySem.W.fnOf "_law_hand" "_law_hand" (defArgs s_l_hand) (defBody s_l_hand) (defScope s_l_hand) .none kV17 dc17 pm17 an17 cd17 ct17), sl17⟩)
    (c_l_hand : PySem.W.codeIn K cd17 "_law_hand" = true)
    (k_l_hand : PySem.W.keepIn K (.ref a17) = true)
    (a_l_draw : PySem.W.nsIn K mainGlobals "_law_draw" = some (some (.ref a18)))
    (l_l_draw : K.lookup a18 = some ⟨oc18, od18, .func (PySem.W.fnOf "_law_draw" "_law_draw" (defArgs s_l_draw) (defBody s_l_draw) (defScope s_l_draw) .none kV18 dc18 pm18 an18 cd18 ct18), sl18⟩)
    (c_l_draw : PySem.W.codeIn K cd18 "_law_draw" = true)
    (k_l_draw : PySem.W.keepIn K (.ref a18) = true)
    (a_l_pick : PySem.W.nsIn K mainGlobals "_law_pick" = some (some (.ref a19)))
    (l_l_pick : K.lookup a19 = some ⟨oc19, od19, .func (PySem.W.fnOf "_law_pick" "_law_pick" (defArgs s_l_pick) (defBody s_l_pick) (defScope s_l_pick) .none kV19 dc19 pm19 an19 cd19 ct19), sl19⟩)
    (c_l_pick : PySem.W.codeIn K cd19 "_law_pick" = true)
    (k_l_pick : PySem.W.keepIn K (.ref a19) = true)
    (a_l_is_whole : PySem.W.nsIn K mainGlobals "_law_is_whole" = some (some (.ref a20)))
    (l_l_is_whole : K.lookup a20 = some ⟨oc20, od20, .func (PySem.W.fnOf "_law_is_whole" "_law_is_whole" (defArgs s_l_is_whole) (defBody s_l_is_whole) (defScope s_l_is_whole) .none kV20 dc20 pm20 an20 cd20 ct20), sl20⟩)
    (c_l_is_whole : PySem.W.codeIn K cd20 "_law_is_whole" = true)
    (k_l_is_whole : PySem.W.keepIn K (.ref a20) = true)
    (a_l_up : PySem.W.nsIn K mainGlobals "_law_up" = some (some (.ref a21)))
    (l_l_up : K.lookup a21 = some ⟨oc21, od21, .func (PySem.W.fnOf "_law_up" "_law_up" (defArgs s_l_up) (defBody s_l_up) (defScope s_l_up) .none kV21 dc21 pm21 an21 cd21 ct21), sl21⟩)
    (c_l_up : PySem.W.codeIn K cd21 "_law_up" = true)
    (k_l_up : PySem.W.keepIn K (.ref a21) = true)
    (a_l_serves : PySem.W.nsIn K mainGlobals "_law_serves" = some (some (.ref a22)))
    (l_l_serves : K.lookup a22 = some ⟨oc22, od22, .func (PySem.W.fnOf "_law_serves" "_law_serves" (defArgs s_l_serves) (defBody s_l_serves) (defScope s_l_serves) .none kV22 dc22 pm22 an22 cd22 ct22), sl22⟩)
    (c_l_serves : PySem.W.codeIn K cd22 "_law_serves" = true)
    (k_l_serves : PySem.W.keepIn K (.ref a22) = true)
    (a_l_next : PySem.W.nsIn K mainGlobals "_law_next" = some (some (.ref a23)))
    (l_l_next : K.lookup a23 = some ⟨oc23, od23, .func (PySem.W.fnOf "_law_next" "_law_next" (defArgs s_l_next) (defBody s_l_next) (defScope s_l_next) .none kV23 dc23 pm23 an23 cd23 ct23), sl23⟩)
    (c_l_next : PySem.W.codeIn K cd23 "_law_next" = true)
    (k_l_next : PySem.W.keepIn K (.ref a23) = true)
    (a_l_odd_people : PySem.W.nsIn K mainGlobals "_law_odd_people" = some (some (.ref a24)))
    (l_l_odd_people : K.lookup a24 = some ⟨oc24, od24, .func (PySem.W.fnOf "_law_odd_people" "_law_odd_people" (defArgs s_l_odd_people) (defBody s_l_odd_people) (defScope s_l_odd_people) .none kV24 dc24 pm24 an24 cd24 ct24), sl24⟩)
    (c_l_odd_people : PySem.W.codeIn K cd24 "_law_odd_people" = true)
    (k_l_odd_people : PySem.W.keepIn K (.ref a24) = true)
    (a_l_pool : PySem.W.nsIn K mainGlobals "_law_pool" = some (some (.ref a25)))
    (l_l_pool : K.lookup a25 = some ⟨oc25, od25, .func (PySem.W.fnOf "_law_pool" "_law_pool" (defArgs s_l_pool) (defBody s_l_pool) (defScope s_l_pool) .none kV25 dc25 pm25 an25 cd25 ct25), sl25⟩)
    (c_l_pool : PySem.W.codeIn K cd25 "_law_pool" = true)
    (k_l_pool : PySem.W.keepIn K (.ref a25) = true)
    (a_l_robbed : PySem.W.nsIn K mainGlobals "_law_robbed" = some (some (.ref a26)))
    (l_l_robbed : K.lookup a26 = some ⟨oc26, od26, .func (PySem.W.fnOf "_law_robbed" "_law_robbed" (defArgs s_l_robbed) (defBody s_l_robbed) (defScope s_l_robbed) .none kV26 dc26 pm26 an26 cd26 ct26), sl26⟩)
    (c_l_robbed : PySem.W.codeIn K cd26 "_law_robbed" = true)
    (k_l_robbed : PySem.W.keepIn K (.ref a26) = true)
    (a_l_told : PySem.W.nsIn K mainGlobals "_law_told" = some (some (.ref a27)))
    (l_l_told : K.lookup a27 = some ⟨oc27, od27, .func (PySem.W.fnOf "_law_told" "_law_told" (defArgs s_l_told) (defBody s_l_told) (defScope s_l_told) .none kV27 dc27 pm27 an27 cd27 ct27), sl27⟩)
    (c_l_told : PySem.W.codeIn K cd27 "_law_told" = true)
    (k_l_told : PySem.W.keepIn K (.ref a27) = true)
    (a_l_rooms_right : PySem.W.nsIn K mainGlobals "_law_rooms_right" = some (some (.ref a28)))
    (l_l_rooms_right : K.lookup a28 = some ⟨oc28, od28, .func (PySem.W.fnOf "_law_rooms_right" "_law_rooms_right" (defArgs s_l_rooms_right) (defBody s_l_rooms_right) (defScope s_l_rooms_right) .none kV28 dc28 pm28 an28 cd28 ct28), sl28⟩)
    (c_l_rooms_right : PySem.W.codeIn K cd28 "_law_rooms_right" = true)
    (k_l_rooms_right : PySem.W.keepIn K (.ref a28) = true)
    (a_l_tried : PySem.W.nsIn K mainGlobals "_law_tried" = some (some (.ref a29)))
    (l_l_tried : K.lookup a29 = some ⟨oc29, od29, .func (PySem.W.fnOf "_law_tried" "_law_tried" (defArgs s_l_tried) (defBody s_l_tried) (defScope s_l_tried) .none kV29 dc29 pm29 an29 cd29 ct29), sl29⟩)
    (c_l_tried : PySem.W.codeIn K cd29 "_law_tried" = true)
    (k_l_tried : PySem.W.keepIn K (.ref a29) = true)
    (a_l_stretch_right : PySem.W.nsIn K mainGlobals "_law_stretch_right" = some (some (.ref a30)))
    (l_l_stretch_right : K.lookup a30 = some ⟨oc30, od30, .func (PySem.W.fnOf "_law_stretch_right" "_law_stretch_right" (defArgs s_l_stretch_right) (defBody s_l_stretch_right) (defScope s_l_stretch_right) .none kV30 dc30 pm30 an30 cd30 ct30), sl30⟩)
    (c_l_stretch_right : PySem.W.codeIn K cd30 "_law_stretch_right" = true)
    (k_l_stretch_right : PySem.W.keepIn K (.ref a30) = true)
    (a_l_refusals_right : PySem.W.nsIn K mainGlobals "_law_refusals_right" = some (some (.ref a31)))
    (l_l_refusals_right : K.lookup a31 = some ⟨oc31, od31, .func (PySem.W.fnOf "_law_refusals_right" "_law_refusals_right" (defArgs s_l_refusals_right) (defBody s_l_refusals_right) (defScope s_l_refusals_right) .none kV31 dc31 pm31 an31 cd31 ct31), sl31⟩)
    (c_l_refusals_right : PySem.W.codeIn K cd31 "_law_refusals_right" = true)
    (k_l_refusals_right : PySem.W.keepIn K (.ref a31) = true)
    (a_law : PySem.W.nsIn K mainGlobals "law" = some (some (.ref a32)))
    (l_law : K.lookup a32 = some ⟨oc32, od32, .func (PySem.W.fnOf "law" "law" (defArgs s_law) (defBody s_law) (defScope s_law) .none kV32 dc32 pm32 an32 cd32 ct32), sl32⟩)
    (c_law : PySem.W.codeIn K cd32 "law" = true)
    (k_law : PySem.W.keepIn K (.ref a32) = true)
    (v_MOST_COINS : PySem.W.nsIn K mainGlobals "MOST_COINS" = some (some (.int 12 tk_MOST_COINS)))
    (v_GREATEST_COIN : PySem.W.nsIn K mainGlobals "GREATEST_COIN" = some (some (.int 1000000000 tk_GREATEST_COIN)))
    (v_MOST_PEOPLE : PySem.W.nsIn K mainGlobals "MOST_PEOPLE" = some (some (.int 5 tk_MOST_PEOPLE)))
    (v_LEAST_PEOPLE : PySem.W.nsIn K mainGlobals "LEAST_PEOPLE" = some (some (.int 2 tk_LEAST_PEOPLE)))
    (n_isinstance : PySem.W.nsIn K mainGlobals "isinstance" = some none)
    (n_int : PySem.W.nsIn K mainGlobals "int" = some none)
    (n_bool : PySem.W.nsIn K mainGlobals "bool" = some none)
    (n_list : PySem.W.nsIn K mainGlobals "list" = some none)
    (n_tuple : PySem.W.nsIn K mainGlobals "tuple" = some none)
    (n_len : PySem.W.nsIn K mainGlobals "len" = some none)
    (n_enumerate : PySem.W.nsIn K mainGlobals "enumerate" = some none)
    (n_sorted : PySem.W.nsIn K mainGlobals "sorted" = some none)
    (n_max : PySem.W.nsIn K mainGlobals "max" = some none)
    (n_sum : PySem.W.nsIn K mainGlobals "sum" = some none)
    (n_abs : PySem.W.nsIn K mainGlobals "abs" = some none)
    (n_range : PySem.W.nsIn K mainGlobals "range" = some none)
    (n_set : PySem.W.nsIn K mainGlobals "set" = some none)
    (n_min : PySem.W.nsIn K mainGlobals "min" = some none)
    (k_BadPool : PySem.W.keepIn K (.ref cBadPool) = true)
    (e_BadPool : PySem.W.subIn K (.ref cBadPool) (.type "BaseException") = some true)
    (t_BadPool : PySem.W.typeIn K (.ref cBadPool) = some (.type "type"))
    (i_BadPool : PySem.W.isClsIn K cBadPool = true)
    (x_BadPool : K.lookup cBadPool = some (excClassObj nm_BadPool q_BadPool cBadPool N_BadPool bs_BadPool [.ref B_BadPool, .type "ValueError", .type "Exception", .type "BaseException", .type "object"] true sn_BadPool sub_BadPool ab_BadPool col_BadPool dd_BadPool m0_BadPool m1_BadPool m2_BadPool m3_BadPool m5_BadPool "ValueError.__new__"))
    (s_BadPool : PySem.W.findIn K (.ref cBadPool) "__setattr__" = some (some (.builtin "object.__setattr__")))
    (ga_BadPool : PySem.W.findIn K (.ref cBadPool) "__getattribute__" = some (some (.builtin "BaseException.__getattribute__")))
    (gg_BadPool : PySem.W.findIn K (.ref cBadPool) "__getattr__" = some none)
    (hd_BadPool : PySem.W.hasDictIn K cBadPool = true)
    (f_BadPool_place : PySem.W.findIn K (.ref cBadPool) "place" = some none)
    (f_BadPool_what : PySem.W.findIn K (.ref cBadPool) "what" = some none)
    (k_BadPeople : PySem.W.keepIn K (.ref cBadPeople) = true)
    (e_BadPeople : PySem.W.subIn K (.ref cBadPeople) (.type "BaseException") = some true)
    (t_BadPeople : PySem.W.typeIn K (.ref cBadPeople) = some (.type "type"))
    (i_BadPeople : PySem.W.isClsIn K cBadPeople = true)
    (x_BadPeople : PySem.W.excIn K cBadPeople [.type "ValueError", .type "Exception", .type "BaseException", .type "object"] "ValueError.__new__" = true)
    (k_BadCoin : PySem.W.keepIn K (.ref cBadCoin) = true)
    (e_BadCoin : PySem.W.subIn K (.ref cBadCoin) (.type "BaseException") = some true)
    (t_BadCoin : PySem.W.typeIn K (.ref cBadCoin) = some (.type "type"))
    (i_BadCoin : PySem.W.isClsIn K cBadCoin = true)
    (x_BadCoin : PySem.W.excIn K cBadCoin [.type "ValueError", .type "Exception", .type "BaseException", .type "object"] "ValueError.__new__" = true)
    (m_BadPool_BadPool : PySem.W.subIn K (.ref cBadPool) (.ref cBadPool) = some true)
    (m_BadPool_BadPeople : PySem.W.subIn K (.ref cBadPool) (.ref cBadPeople) = some false)
    (m_BadPool_BadCoin : PySem.W.subIn K (.ref cBadPool) (.ref cBadCoin) = some false)
    (m_BadPeople_BadPool : PySem.W.subIn K (.ref cBadPeople) (.ref cBadPool) = some false)
    (m_BadPeople_BadPeople : PySem.W.subIn K (.ref cBadPeople) (.ref cBadPeople) = some true)
    (m_BadPeople_BadCoin : PySem.W.subIn K (.ref cBadPeople) (.ref cBadCoin) = some false)
    (m_BadCoin_BadPool : PySem.W.subIn K (.ref cBadCoin) (.ref cBadPool) = some false)
    (m_BadCoin_BadPeople : PySem.W.subIn K (.ref cBadCoin) (.ref cBadPeople) = some false)
    (m_BadCoin_BadCoin : PySem.W.subIn K (.ref cBadCoin) (.ref cBadCoin) = some true) :
    ∃ fd : FuncData, (∀ (s : Shared) (v : Value), BindsTo s fd ⟨[v], []⟩ [("_law_script", v)]) ∧ ∀ base : Heap, K.In base → base.Ns mainGlobals mg → FnOk l.prog w K mg base CX0 8 fa fd ["_law_script"] (sp_law K) := by
  have e := hfa.symm.trans (PySem.W.mg_of X G a_law)
  cases e
  have F1 := fun_mk (st := s_i_BadPool) l_i_BadPool c_i_BadPool k_i_BadPool
  have b1 := F1.binds (ps := ps_i_BadPool) fun _ _ _ _ _ _ us hl => match us, hl with | [_, _, _], _ => rfl
  have F2 := fun_mk (st := s_is_number) l_is_number c_is_number k_is_number
  have b2 := F2.binds (ps := ps_is_number) fun _ _ _ _ _ _ us hl => match us, hl with | [_], _ => rfl
  have F3 := fun_mk (st := s_is_whole) l_is_whole c_is_whole k_is_whole
  have b3 := F3.binds (ps := ps_is_whole) fun _ _ _ _ _ _ us hl => match us, hl with | [_, _, _], _ => rfl
  have F4 := fun_mk (st := s_is_row) l_is_row c_is_row k_is_row
  have b4 := F4.binds (ps := ps_is_row) fun _ _ _ _ _ _ us hl => match us, hl with | [_, _, _], _ => rfl
  have F5 := fun_mk (st := s_check_pool) l_check_pool c_check_pool k_check_pool
  have b5 := F5.binds (ps := ps_check_pool) fun _ _ _ _ _ _ us hl => match us, hl with | [_], _ => rfl
  have F6 : FunD K "check_people" "check_people" (defArgs s_check_people) (defBody s_check_people) (defScope s_check_people) [(V.int 1)] [] a6 _ := ⟨⟨_, _, _, _, _, _, _, _, _, _, rfl, l_check_people, c_check_people, .inr ⟨(fun z => nomatch z), _, _, _, _, rfl, t_check_people, rfl, (Paired.cons ⟨_, rfl⟩ Paired.nil)⟩, .inl rfl⟩, k_check_people⟩
  obtain ⟨ds6, vs6, b6⟩ := F6.binds1 (ps := ps_check_people) 2 1 (fun z => nomatch z) rfl fun _ _ _ _ _ _ _ us its h1 h2 => match us, its, h1, h2 with | [_, _], [_], _, _ => ⟨_, rfl, rfl⟩
  cases vs6
  have F7 := fun_mk (st := s_sums_ahead) l_sums_ahead c_sums_ahead k_sums_ahead
  have b7 := F7.binds (ps := ps_sums_ahead) fun _ _ _ _ _ _ us hl => match us, hl with | [_], _ => rfl
  have F8 := fun_mk (st := s_check_coin) l_check_coin c_check_coin k_check_coin
  have b8 := F8.binds (ps := ps_check_coin) fun _ _ _ _ _ _ us hl => match us, hl with | [_], _ => rfl
  have F9 := fun_mk (st := s_room_at) l_room_at c_room_at k_room_at
  have b9 := F9.binds (ps := ps_room_at) fun _ _ _ _ _ _ us hl => match us, hl with | [_, _], _ => rfl
  have F10 := fun_mk (st := s_is_serving) l_is_serving c_is_serving k_is_serving
  have b10 := F10.binds (ps := ps_is_serving) fun _ _ _ _ _ _ us hl => match us, hl with | [_, _], _ => rfl
  have F11 := fun_mk (st := s_places_above) l_places_above c_places_above k_places_above
  have b11 := F11.binds (ps := ps_places_above) fun _ _ _ _ _ _ us hl => match us, hl with | [_, _], _ => rfl
  have F12 := fun_mk (st := s_room_row) l_room_row c_room_row k_room_row
  have b12 := F12.binds (ps := ps_room_row) fun _ _ _ _ _ _ us hl => match us, hl with | [_, _], _ => rfl
  have F13 := fun_mk (st := s_fitting_coins) l_fitting_coins c_fitting_coins k_fitting_coins
  have b13 := F13.binds (ps := ps_fitting_coins) fun _ _ _ _ _ _ us hl => match us, hl with | [_, _], _ => rfl
  have F14 := fun_mk (st := s_next_coin) l_next_coin c_next_coin k_next_coin
  have b14 := F14.binds (ps := ps_next_coin) fun _ _ _ _ _ _ us hl => match us, hl with | [_, _], _ => rfl
  have F15 := fun_mk (st := s_may_put) l_may_put c_may_put k_may_put
  have b15 := F15.binds (ps := ps_may_put) fun _ _ _ _ _ _ us hl => match us, hl with | [_, _, _], _ => rfl
  have F16 := fun_mk (st := s_l_mix) l_l_mix c_l_mix k_l_mix
  have b16 := F16.binds (ps := ps_l_mix) fun _ _ _ _ _ _ us hl => match us, hl with | [_, _], _ => rfl
  have F17 := fun_mk (st := s_l_hand) l_l_hand c_l_hand k_l_hand
  have b17 := F17.binds (ps := ps_l_hand) fun _ _ _ _ _ _ us hl => match us, hl with | [_], _ => rfl
  have F18 := fun_mk (st := s_l_draw) l_l_draw c_l_draw k_l_draw
  have b18 := F18.binds (ps := ps_l_draw) fun _ _ _ _ _ _ us hl => match us, hl with | [_, _], _ => rfl
  have F19 := fun_mk (st := s_l_pick) l_l_pick c_l_pick k_l_pick
  have b19 := F19.binds (ps := ps_l_pick) fun _ _ _ _ _ _ us hl => match us, hl with | [_, _], _ => rfl
  have F20 := fun_mk (st := s_l_is_whole) l_l_is_whole c_l_is_whole k_l_is_whole
  have b20 := F20.binds (ps := ps_l_is_whole) fun _ _ _ _ _ _ us hl => match us, hl with | [_], _ => rfl
  have F21 := fun_mk (st := s_l_up) l_l_up c_l_up k_l_up
  have b21 := F21.binds (ps := ps_l_up) fun _ _ _ _ _ _ us hl => match us, hl with | [_, _], _ => rfl
  have F22 := fun_mk (st := s_l_serves) l_l_serves c_l_serves k_l_serves
  have b22 := F22.binds (ps := ps_l_serves) fun _ _ _ _ _ _ us hl => match us, hl with | [_, _], _ => rfl
  have F23 := fun_mk (st := s_l_next) l_l_next c_l_next k_l_next
  have b23 := F23.binds (ps := ps_l_next) fun _ _ _ _ _ _ us hl => match us, hl with | [_, _], _ => rfl
  have F24 := fun_mk (st := s_l_odd_people) l_l_odd_people c_l_odd_people k_l_odd_people
  have b24 := F24.binds (ps := ps_l_odd_people) fun _ _ _ _ _ _ us hl => match us, hl with | [_], _ => rfl
  have F25 := fun_mk (st := s_l_pool) l_l_pool c_l_pool k_l_pool
  have b25 := F25.binds (ps := ps_l_pool) fun _ _ _ _ _ _ us hl => match us, hl with | [_, _, _], _ => rfl
  have F26 := fun_mk (st := s_l_robbed) l_l_robbed c_l_robbed k_l_robbed
  have b26 := F26.binds (ps := ps_l_robbed) fun _ _ _ _ _ _ us hl => match us, hl with | [_, _], _ => rfl
  have F27 := fun_mk (st := s_l_told) l_l_told c_l_told k_l_told
  have b27 := F27.binds (ps := ps_l_told) fun _ _ _ _ _ _ us hl => match us, hl with | [_, _, _, _], _ => rfl
  have F28 := fun_mk (st := s_l_rooms_right) l_l_rooms_right c_l_rooms_right k_l_rooms_right
  have b28 := F28.binds (ps := ps_l_rooms_right) fun _ _ _ _ _ _ us hl => match us, hl with | [_, _], _ => rfl
  have F29 := fun_mk (st := s_l_tried) l_l_tried c_l_tried k_l_tried
  have b29 := F29.binds (ps := ps_l_tried) fun _ _ _ _ _ _ us hl => match us, hl with | [_, _, _], _ => rfl
  have F30 := fun_mk (st := s_l_stretch_right) l_l_stretch_right c_l_stretch_right k_l_stretch_right
  have b30 := F30.binds (ps := ps_l_stretch_right) fun _ _ _ _ _ _ us hl => match us, hl with | [_, _, _], _ => rfl
  have F31 := fun_mk (st := s_l_refusals_right) l_l_refusals_right c_l_refusals_right k_l_refusals_right
  have b31 := F31.binds (ps := ps_l_refusals_right) fun _ _ _ _ _ _ us hl => match us, hl with | [_, _, _], _ => rfl
  have F32 := fun_mk (st := s_law) l_law c_law k_law
  have b32 := F32.binds (ps := ps_law) fun _ _ _ _ _ _ us hl => match us, hl with | [_], _ => rfl
  have T : Txt K mg cBadPool cBadPeople cBadCoin :=
    { d_is_number := ⟨_, _, F2, PySem.W.mg_of X G a_is_number, b2⟩,
      d_is_whole := ⟨_, _, F3, PySem.W.mg_of X G a_is_whole, b3⟩,
      d_is_row := ⟨_, _, F4, PySem.W.mg_of X G a_is_row, b4⟩,
      d_check_pool := ⟨_, _, F5, PySem.W.mg_of X G a_check_pool, b5⟩,
      d_check_people := ⟨_, _, F6, PySem.W.mg_of X G a_check_people, b6⟩,
      d_sums_ahead := ⟨_, _, F7, PySem.W.mg_of X G a_sums_ahead, b7⟩,
      d_check_coin := ⟨_, _, F8, PySem.W.mg_of X G a_check_coin, b8⟩,
      d_room_at := ⟨_, _, F9, PySem.W.mg_of X G a_room_at, b9⟩,
      d_is_serving := ⟨_, _, F10, PySem.W.mg_of X G a_is_serving, b10⟩,
      d_places_above := ⟨_, _, F11, PySem.W.mg_of X G a_places_above, b11⟩,
      d_room_row := ⟨_, _, F12, PySem.W.mg_of X G a_room_row, b12⟩,
      d_fitting_coins := ⟨_, _, F13, PySem.W.mg_of X G a_fitting_coins, b13⟩,
      d_next_coin := ⟨_, _, F14, PySem.W.mg_of X G a_next_coin, b14⟩,
      d_may_put := ⟨_, _, F15, PySem.W.mg_of X G a_may_put, b15⟩,
      d_l_mix := ⟨_, _, F16, PySem.W.mg_of X G a_l_mix, b16⟩,
      d_l_hand := ⟨_, _, F17, PySem.W.mg_of X G a_l_hand, b17⟩,
      d_l_draw := ⟨_, _, F18, PySem.W.mg_of X G a_l_draw, b18⟩,
      d_l_pick := ⟨_, _, F19, PySem.W.mg_of X G a_l_pick, b19⟩,
      d_l_is_whole := ⟨_, _, F20, PySem.W.mg_of X G a_l_is_whole, b20⟩,
      d_l_up := ⟨_, _, F21, PySem.W.mg_of X G a_l_up, b21⟩,
      d_l_serves := ⟨_, _, F22, PySem.W.mg_of X G a_l_serves, b22⟩,
      d_l_next := ⟨_, _, F23, PySem.W.mg_of X G a_l_next, b23⟩,
      d_l_odd_people := ⟨_, _, F24, PySem.W.mg_of X G a_l_odd_people, b24⟩,
      d_l_pool := ⟨_, _, F25, PySem.W.mg_of X G a_l_pool, b25⟩,
      d_l_robbed := ⟨_, _, F26, PySem.W.mg_of X G a_l_robbed, b26⟩,
      d_l_told := ⟨_, _, F27, PySem.W.mg_of X G a_l_told, b27⟩,
      d_l_rooms_right := ⟨_, _, F28, PySem.W.mg_of X G a_l_rooms_right, b28⟩,
      d_l_tried := ⟨_, _, F29, PySem.W.mg_of X G a_l_tried, b29⟩,
      d_l_stretch_right := ⟨_, _, F30, PySem.W.mg_of X G a_l_stretch_right, b30⟩,
      d_l_refusals_right := ⟨_, _, F31, PySem.W.mg_of X G a_l_refusals_right, b31⟩,
      d_law := ⟨_, _, F32, PySem.W.mg_of X G a_law, b32⟩,
      c_MOST_COINS := ⟨_, PySem.W.mg_of X G v_MOST_COINS, ⟨_, rfl⟩⟩,
      c_GREATEST_COIN := ⟨_, PySem.W.mg_of X G v_GREATEST_COIN, ⟨_, rfl⟩⟩,
      c_MOST_PEOPLE := ⟨_, PySem.W.mg_of X G v_MOST_PEOPLE, ⟨_, rfl⟩⟩,
      c_LEAST_PEOPLE := ⟨_, PySem.W.mg_of X G v_LEAST_PEOPLE, ⟨_, rfl⟩⟩,
      n_isinstance := PySem.W.mg_none_of X G n_isinstance,
      n_int := PySem.W.mg_none_of X G n_int,
      n_bool := PySem.W.mg_none_of X G n_bool,
      n_list := PySem.W.mg_none_of X G n_list,
      n_tuple := PySem.W.mg_none_of X G n_tuple,
      n_len := PySem.W.mg_none_of X G n_len,
      n_enumerate := PySem.W.mg_none_of X G n_enumerate,
      n_sorted := PySem.W.mg_none_of X G n_sorted,
      n_max := PySem.W.mg_none_of X G n_max,
      n_sum := PySem.W.mg_none_of X G n_sum,
      n_abs := PySem.W.mg_none_of X G n_abs,
      n_range := PySem.W.mg_none_of X G n_range,
      n_set := PySem.W.mg_none_of X G n_set,
      n_min := PySem.W.mg_none_of X G n_min,
      y_BadPool := ⟨PySem.W.mg_of X G g_BadPool, ⟨⟨_, _, _, _, _, _, _, _, _, _, _, _, _, _, _, x_BadPool, (show PySem.HandSPX.refsVE [.type "ValueError", .type "Exception", .type "BaseException", .type "object"] = true by decide +kernel)⟩, s_BadPool, e_BadPool, t_BadPool, k_BadPool⟩, ⟨_, _, F1, b1, a_i_BadPool, t_i_BadPool⟩⟩,
      x_BadPool := ⟨ga_BadPool, gg_BadPool, e_BadPool, hd_BadPool⟩,
      f_BadPool_place := f_BadPool_place,
      f_BadPool_what := f_BadPool_what,
      y_BadPeople := ⟨PySem.W.mg_of X G g_BadPeople, x_BadPeople, k_BadPeople, e_BadPeople, t_BadPeople⟩,
      y_BadCoin := ⟨PySem.W.mg_of X G g_BadCoin, x_BadCoin, k_BadCoin, e_BadCoin, t_BadCoin⟩,
      m_BadPool_BadPool := exm_mk e_BadPool i_BadPool t_BadPool m_BadPool_BadPool,
      m_BadPool_BadPeople := exm_mk e_BadPeople i_BadPeople t_BadPeople m_BadPool_BadPeople,
      m_BadPool_BadCoin := exm_mk e_BadCoin i_BadCoin t_BadCoin m_BadPool_BadCoin,
      m_BadPeople_BadPool := exm_mk e_BadPool i_BadPool t_BadPool m_BadPeople_BadPool,
      m_BadPeople_BadPeople := exm_mk e_BadPeople i_BadPeople t_BadPeople m_BadPeople_BadPeople,
      m_BadPeople_BadCoin := exm_mk e_BadCoin i_BadCoin t_BadCoin m_BadPeople_BadCoin,
      m_BadCoin_BadPool := exm_mk e_BadPool i_BadPool t_BadPool m_BadCoin_BadPool,
      m_BadCoin_BadPeople := exm_mk e_BadPeople i_BadPeople t_BadPeople m_BadCoin_BadPeople,
      m_BadCoin_BadCoin := exm_mk e_BadCoin i_BadCoin t_BadCoin m_BadCoin_BadCoin }
  exact ⟨_, fun s v => .of_eq rfl, fun base _ _ => ok_law F32 T⟩
theorem walk {l : PySem.W.OpenLaw} {q : Program} {loose : List Str} {XP : (Str → Option Value) → Heap → Prop} {YP : World → Heap → Prop} {d : DefRec} {K : Params → PySem.W.Frag} (hn : l.most = some 63) (hdf : d.params.defaults = [])
    (hY : ∀ (w : World) (h : Heap), YP w h → (K w.params).In h)
    (F : ∀ (w : World) (mg : Str → Option Value) (fa : Addr) (h : Heap), (K w.params).In h → h.Ns mainGlobals mg → mg d.name = some (.ref fa) →
      ∃ fd : FuncData, (∀ (s : Shared) (u : Value), BindsTo s fd ⟨[u], []⟩ [("_law_script", u)]) ∧ ∀ base : Heap, (K w.params).In base → base.Ns mainGlobals mg → FnOk l.prog w (K w.params) mg base CX0 8 fa fd ["_law_script"] (sp_law (K w.params))) :
    PySem.W.WalkO q loose XP YP l.row.toRowW d [] (fun f vs => PySem.call f vs) :=
  L2.walk_of (n := 63) (k := 8) (x := "_law_script") (CX := fun _ => CX0) (sp := fun w => sp_law (K w.params)) hn (by decide) hdf ⟨rfl, by decide, by decide⟩ hY F (fun _ _ a ns hl _ hS => ⟨a, ns, rfl, hS, hl, fun _ => rfl⟩) fun _ _ _ _ _ z => z
end My
open PySem PySem.W PyProof.Rows
set_option maxRecDepth 100000 in
set_option maxHeartbeats 0 in
theorem PySem.Challenge.cw_anyworths_k21_whole_coins_that_come_are_holds : PySem.Challenge.rw_anyworths_k21_whole_coins_that_come_are.Holds := by
  w_on; o_law; k_head; (case hw => w_witness2)
  k_fill
  refine My.walk (l := PySem.Challenge.rw_anyworths_k21_whole_coins_that_come_are) rfl rfl (fun w h Y => PySem.W.kIn_of Y) ?F
  case F =>
    intro w mg fa h KX G hmg
    refine' My.all_mk KX G hmg ?g_BadPool ?g_BadPeople ?g_BadCoin ?a_i_BadPool ?l_i_BadPool ?c_i_BadPool ?k_i_BadPool ?t_i_BadPool ?a_is_number ?l_is_number ?c_is_number ?k_is_number ?a_is_whole ?l_is_whole ?c_is_whole ?k_is_whole ?a_is_row ?l_is_row ?c_is_row ?k_is_row ?a_check_pool ?l_check_pool ?c_check_pool ?k_check_pool ?a_check_people ?l_check_people ?t_check_people ?c_check_people ?k_check_people ?a_sums_ahead ?l_sums_ahead ?c_sums_ahead ?k_sums_ahead ?a_check_coin ?l_check_coin ?c_check_coin ?k_check_coin ?a_room_at ?l_room_at ?c_room_at ?k_room_at ?a_is_serving ?l_is_serving ?c_is_serving ?k_is_serving ?a_places_above ?l_places_above ?c_places_above ?k_places_above ?a_room_row ?l_room_row ?c_room_row ?k_room_row ?a_fitting_coins ?l_fitting_coins ?c_fitting_coins ?k_fitting_coins ?a_next_coin ?l_next_coin ?c_next_coin ?k_next_coin ?a_may_put ?l_may_put ?c_may_put ?k_may_put ?a_l_mix ?l_l_mix ?c_l_mix ?k_l_mix ?a_l_hand ?l_l_hand ?c_l_hand ?k_l_hand ?a_l_draw ?l_l_draw ?c_l_draw ?k_l_draw ?a_l_pick ?l_l_pick ?c_l_pick ?k_l_pick ?a_l_is_whole ?l_l_is_whole ?c_l_is_whole ?k_l_is_whole ?a_l_up ?l_l_up ?c_l_up ?k_l_up ?a_l_serves ?l_l_serves ?c_l_serves ?k_l_serves ?a_l_next ?l_l_next ?c_l_next ?k_l_next ?a_l_odd_people ?l_l_odd_people ?c_l_odd_people ?k_l_odd_people ?a_l_pool ?l_l_pool ?c_l_pool ?k_l_pool ?a_l_robbed ?l_l_robbed ?c_l_robbed ?k_l_robbed ?a_l_told ?l_l_told ?c_l_told ?k_l_told ?a_l_rooms_right ?l_l_rooms_right ?c_l_rooms_right ?k_l_rooms_right ?a_l_tried ?l_l_tried ?c_l_tried ?k_l_tried ?a_l_stretch_right ?l_l_stretch_right ?c_l_stretch_right ?k_l_stretch_right ?a_l_refusals_right ?l_l_refusals_right ?c_l_refusals_right ?k_l_refusals_right ?a_law ?l_law ?c_law ?k_law ?v_MOST_COINS ?v_GREATEST_COIN ?v_MOST_PEOPLE ?v_LEAST_PEOPLE ?n_isinstance ?n_int ?n_bool ?n_list ?n_tuple ?n_len ?n_enumerate ?n_sorted ?n_max ?n_sum ?n_abs ?n_range ?n_set ?n_min ?k_BadPool ?e_BadPool ?t_BadPool ?i_BadPool ?x_BadPool ?s_BadPool ?ga_BadPool ?gg_BadPool ?hd_BadPool ?f_BadPool_place ?f_BadPool_what ?k_BadPeople ?e_BadPeople ?t_BadPeople ?i_BadPeople ?x_BadPeople ?k_BadCoin ?e_BadCoin ?t_BadCoin ?i_BadCoin ?x_BadCoin ?m_BadPool_BadPool ?m_BadPool_BadPeople ?m_BadPool_BadCoin ?m_BadPeople_BadPool ?m_BadPeople_BadPeople ?m_BadPeople_BadCoin ?m_BadCoin_BadPool ?m_BadCoin_BadPeople ?m_BadCoin_BadCoin
    (case g_BadPool => k_is)
    (case g_BadPeople => k_is)
    (case g_BadCoin => k_is)
    (case a_i_BadPool => k_is)
    (case l_i_BadPool => k_is)
    (case c_i_BadPool => k_is)
    (case k_i_BadPool => k_is)
    (case t_i_BadPool => k_is)
    (case a_is_number => k_is)
    (case l_is_number => k_is)
    (case c_is_number => k_is)
    (case k_is_number => k_is)
    (case a_is_whole => k_is)
    (case l_is_whole => k_is)
    (case c_is_whole => k_is)
    (case k_is_whole => k_is)
    (case a_is_row => k_is)
    (case l_is_row => k_is)
    (case c_is_row => k_is)
    (case k_is_row => k_is)
    (case a_check_pool => k_is)
    (case l_check_pool => k_is)
    (case c_check_pool => k_is)
    (case k_check_pool => k_is)
    (case a_check_people => k_is)
    (case l_check_people => k_is)
    (case t_check_people => k_is)
    (case c_check_people => k_is)
    (case k_check_people => k_is)
    (case a_sums_ahead => k_is)
    (case l_sums_ahead => k_is)
    (case c_sums_ahead => k_is)
    (case k_sums_ahead => k_is)
    (case a_check_coin => k_is)
    (case l_check_coin => k_is)
    (case c_check_coin => k_is)
    (case k_check_coin => k_is)
    (case a_room_at => k_is)
    (case l_room_at => k_is)
    (case c_room_at => k_is)
    (case k_room_at => k_is)
    (case a_is_serving => k_is)
    (case l_is_serving => k_is)
    (case c_is_serving => k_is)
    (case k_is_serving => k_is)
    (case a_places_above => k_is)
    (case l_places_above => k_is)
    (case c_places_above => k_is)
    (case k_places_above => k_is)
    (case a_room_row => k_is)
    (case l_room_row => k_is)
    (case c_room_row => k_is)
    (case k_room_row => k_is)
    (case a_fitting_coins => k_is)
    (case l_fitting_coins => k_is)
    (case c_fitting_coins => k_is)
    (case k_fitting_coins => k_is)
    (case a_next_coin => k_is)
    (case l_next_coin => k_is)
    (case c_next_coin => k_is)
    (case k_next_coin => k_is)
    (case a_may_put => k_is)
    (case l_may_put => k_is)
    (case c_may_put => k_is)
    (case k_may_put => k_is)
    (case a_l_mix => k_is)
    (case l_l_mix => k_is)
    (case c_l_mix => k_is)
    (case k_l_mix => k_is)
    (case a_l_hand => k_is)
    (case l_l_hand => k_is)
    (case c_l_hand => k_is)
    (case k_l_hand => k_is)
    (case a_l_draw => k_is)
    (case l_l_draw => k_is)
    (case c_l_draw => k_is)
    (case k_l_draw => k_is)
    (case a_l_pick => k_is)
    (case l_l_pick => k_is)
    (case c_l_pick => k_is)
    (case k_l_pick => k_is)
    (case a_l_is_whole => k_is)
    (case l_l_is_whole => k_is)
    (case c_l_is_whole => k_is)
    (case k_l_is_whole => k_is)
    (case a_l_up => k_is)
    (case l_l_up => k_is)
    (case c_l_up => k_is)
    (case k_l_up => k_is)
    (case a_l_serves => k_is)
    (case l_l_serves => k_is)
    (case c_l_serves => k_is)
    (case k_l_serves => k_is)
    (case a_l_next => k_is)
    (case l_l_next => k_is)
    (case c_l_next => k_is)
    (case k_l_next => k_is)
    (case a_l_odd_people => k_is)
    (case l_l_odd_people => k_is)
    (case c_l_odd_people => k_is)
    (case k_l_odd_people => k_is)
    (case a_l_pool => k_is)
    (case l_l_pool => k_is)
    (case c_l_pool => k_is)
    (case k_l_pool => k_is)
    (case a_l_robbed => k_is)
    (case l_l_robbed => k_is)
    (case c_l_robbed => k_is)
    (case k_l_robbed => k_is)
    (case a_l_told => k_is)
    (case l_l_told => k_is)
    (case c_l_told => k_is)
    (case k_l_told => k_is)
    (case a_l_rooms_right => k_is)
    (case l_l_rooms_right => k_is)
    (case c_l_rooms_right => k_is)
    (case k_l_rooms_right => k_is)
    (case a_l_tried => k_is)
    (case l_l_tried => k_is)
    (case c_l_tried => k_is)
    (case k_l_tried => k_is)
    (case a_l_stretch_right => k_is)
    (case l_l_stretch_right => k_is)
    (case c_l_stretch_right => k_is)
    (case k_l_stretch_right => k_is)
    (case a_l_refusals_right => k_is)
    (case l_l_refusals_right => k_is)
    (case c_l_refusals_right => k_is)
    (case k_l_refusals_right => k_is)
    (case a_law => k_is)
    (case l_law => k_is)
    (case c_law => k_is)
    (case k_law => k_is)
    (case v_MOST_COINS => k_is)
    (case v_GREATEST_COIN => k_is)
    (case v_MOST_PEOPLE => k_is)
    (case v_LEAST_PEOPLE => k_is)
    (case n_isinstance => k_is)
    (case n_int => k_is)
    (case n_bool => k_is)
    (case n_list => k_is)
    (case n_tuple => k_is)
    (case n_len => k_is)
    (case n_enumerate => k_is)
    (case n_sorted => k_is)
    (case n_max => k_is)
    (case n_sum => k_is)
    (case n_abs => k_is)
    (case n_range => k_is)
    (case n_set => k_is)
    (case n_min => k_is)
    (case k_BadPool => k_is)
    (case e_BadPool => k_is)
    (case t_BadPool => k_is)
    (case i_BadPool => k_is)
    (case x_BadPool => k_is)
    (case s_BadPool => k_is)
    (case ga_BadPool => k_is)
    (case gg_BadPool => k_is)
    (case hd_BadPool => k_is)
    (case f_BadPool_place => k_is)
    (case f_BadPool_what => k_is)
    (case k_BadPeople => k_is)
    (case e_BadPeople => k_is)
    (case t_BadPeople => k_is)
    (case i_BadPeople => k_is)
    (case x_BadPeople => k_exc)
    (case k_BadCoin => k_is)
    (case e_BadCoin => k_is)
    (case t_BadCoin => k_is)
    (case i_BadCoin => k_is)
    (case x_BadCoin => k_exc)
    (case m_BadPool_BadPool => first | rfl | k_is)
    (case m_BadPool_BadPeople => k_is)
    (case m_BadPool_BadCoin => k_is)
    (case m_BadPeople_BadPool => k_is)
    (case m_BadPeople_BadPeople => first | rfl | k_is)
    (case m_BadPeople_BadCoin => k_is)
    (case m_BadCoin_BadPool => k_is)
    (case m_BadCoin_BadPeople => k_is)
    (case m_BadCoin_BadCoin => first | rfl | k_is)

