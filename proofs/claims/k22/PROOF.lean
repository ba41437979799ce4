import PyProof.Rows.All
import Wide.All
import OpenK.AllK
import Wide.FinOn
import PyProof.EqAt
import PyProof.EqKinds
import PyProof.TupleCall
import Open.SpecLaws
import KE.OsGo
import PySem.Challenge.RW_anyworths_k22_whole_fewest_coins_that_me
import HandS.ForMost
import HandS.ForExc
import HandS.TryMany
import HandS.ExcInit
import HandS.ExcField
import HandS.Wide
import HandS.IsInst
import HandS.Defaults
import HandS.Small
import HandS.SlotsOwn
import HandS.SetFor
import KE.GoesMore
import KE.GoesEnum
import KE.SortCalls
import PyProof.InstEq
import PyProof.TupleOfSeq
import PyProof.SumWalkG
import PyProof.WalkInts
import PyProof.Rows.SortShellAny
import PyProof.Rows.SortWalk
import KE.OsSort
import OpenK.KEqL
import HandS.TupAny
import HandS.TupMul
set_option Elab.async false
set_option linter.all false
set_option maxRecDepth 100000
set_option maxHeartbeats 4000000
/-! ## The general part: several except clauses with and without a name, own errors, defs as they stand behind the top -/
namespace Gen
open PySem PySem.Spec PyProof.Rows L2
/-- a suite's reading: the exception's place, its class, its dict -/
abbrev SU := Addr → Value → Option Addr → TS
/-- what follows a suite that has named its exception: the name's slot is empty again -/
def Ends.off (D : Ends) (i : Nat) : Ends :=
  { nx := fun z h => D.nx (z.set i none) h, rt := D.rt, bk := fun z h => D.bk (z.set i none) h, ct := fun z h => D.ct (z.set i none) h }
def suiteOf (D : Ends) (o : Option Nat) (t : SU) (a : Addr) (c : Value) (d : Option Addr) (z : L2.St) (h : Hp) : Prop :=
  match o with
  | none => t a c d D z h
  | some i => t a c d (Ends.off D i) (z.set i (some (.ref a))) h
/-- what the clauses wish, one behind the other -/
def wMix (K : PySem.W.Frag) (Wo : WX) (D : Ends) : List (Value × Option Nat × SU) → WX
  | [] => Wo
  | (c, o, t) :: rest => fun k d z h => ∃ yes, PySem.W.exmOne K k c = some yes ∧ (yes = true → ∀ a, h a = none → suiteOf D o t a k d z h) ∧ (yes = false → wMix K Wo D rest k d z h)
inductive HdsX (X : Cx) : List ExceptHandler → List (Value × Option Nat × SU) → Prop
  | nil : HdsX X [] []
  | one {x : Str} {c : Value} {t : SU} {b : Stmt} {bs : List Stmt} {p1 p2 : Pos} {hs : List ExceptHandler} {l : List (Value × Option Nat × SU)} (nm : Names X x c)
      (su : ∀ (a : Addr) (oe : Obj) (k : Value) (d : Option Addr) (pn : List (Addr × Obj)), Zc k d oe → (∃ fs, oe.data = .fields fs) → PSs (X.suite a ((a, oe) :: pn)) (b :: bs) (t a k d))
      (r : HdsX X hs l) : HdsX X (.ExceptHandler (some (.Name x p1)) none (b :: bs) p2 :: hs) ((c, none, t) :: l)
  | asn {i : Nat} {n x : Str} {c : Value} {t : SU} {b : Stmt} {bs : List Stmt} {p1 p2 : Pos} {hs : List ExceptHandler} {l : List (Value × Option Nat × SU)} (nm : Names X x c)
      (nd : X.N.Nodup) (ni : X.N[i]? = some n) (nl : X.env.kindOf n = some .local)
      (su : ∀ (a : Addr) (oe : Obj) (k : Value) (d : Option Addr) (pn : List (Addr × Obj)), Zc k d oe → (∃ fs, oe.data = .fields fs) → PSs (X.suite a ((a, oe) :: pn)) (b :: bs) (t a k d))
      (r : HdsX X hs l) : HdsX X (.ExceptHandler (some (.Name x p1)) (some n) (b :: bs) p2 :: hs) ((c, some i, t) :: l)
section
variable {X : Cx} {body : List Stmt} {h1 : ExceptHandler} {hs : List ExceptHandler} {l : List (Value × Option Nat × SU)} {pos : Pos} {tb : WX → TS} {Wo : WX}
theorem ps_try_mix (est : X.stack = X.env :: X.outer) (efr : X.env.frame = some X.env.locals) (tkO : Takes X Wo)
    (hb : ∀ (W : WX) (pn : List (Addr × Obj)) (xe : Value → Shared → Prop), Takes (X.tr pn xe) W → PassesOwn (model X.prog X.w) X.A X.env xe → PSs (X.tr pn xe) body (tb W))
    (hh : HdsX X (h1 :: hs) l) : PS X (.Try body (h1 :: hs) [] [] pos) (fun D z h => tb (wMix X.K Wo D l) D z h) := by
  refine ⟨fun pins s z h D I red => ?_⟩
  have good := I.ok
  have efs : X.A.frames = some (X.env :: X.outer) := good.frames.trans (congrArg some est)
  refine wpAny_Try_except (wpAny_mono ((hb (wMix X.K Wo D l) (X.pn ++ pins) (fun e u1 => wpAny (model X.prog X.w) X.A (noteFrame e X.env) (fun _ u2 => wpAny (model X.prog X.w) X.A (setFlight e none) (fun _ u3 =>
    wpAny (model X.prog X.w) X.A (handleBy e X.env (h1 :: hs)) (SP X pins D) X.xe u3) X.xe u2) X.xe u1) (fun u u' air => ?_) PassesOwn.looking).run [] s z h D (I.toTry _) red) (fun fl u1 sp1 => ?_) (fun e u1 q => q))
  · obtain ⟨a, B, sI, pins2, z2, g2, k, d, rfl, J0, nb, up, sky0, na, os, ag, wish⟩ := air
    have J : Inv X pins z2 g2 sI := J0.ofTry good
    have sky : Sky B (X.env :: X.outer) a (Zc k d) X.env.locals u'.heap := est ▸ sky0
    show wpAny (model X.prog X.w) X.A (noteFrame (.ref a) X.env) _ _ _
    refine Sky.land Zc.steady efs efr sky fun hp3 fl3 up3 => ?_
    have J3 : Inv X pins z2 g2 { u' with heap := hp3 } := J.landed nb fl3.1 (up.trans up3) os ag
    obtain ⟨o3, fs3, e3, zc3, d3⟩ := fl3.there
    have offFr : ∀ {hp : Heap} {o : Obj} {fs : Array Value}, hp.FunFrames B (X.env :: X.outer) → hp.get? a = some o → o.data = .fields fs → a ∉ frs (X.env :: X.outer) := fun {hp o fs} ff eo dd hm => by
      obtain ⟨_, o', eo', nf⟩ := ff.mem hm
      cases eo.symm.trans eo'
      exact nf _ dd
    have nfr := offFr fl3.2.2.1 e3 d3
    have nL : a ≠ X.env.locals := fun q => nfr (List.mem_filterMap.mpr ⟨X.env, List.mem_cons_self, efr.trans (congrArg some q.symm)⟩)
    have nF : a ∉ X.fs := fun hm => by
      obtain ⟨en, hen, q⟩ := List.mem_filterMap.mp hm
      exact nfr (List.mem_filterMap.mpr ⟨en, List.mem_cons_of_mem _ hen, q⟩)
    have S3 := J3.suite e3 d3 na nL nF
    have looksT : PySem.W.Looks (model X.prog X.w) hp3 (typeOf (.ref a)) k := fun A Q E s kp q => wpAny_typeOf_ref (kp _ _ e3) (by rw [zc3.1]; exact q)
    have named : ∀ {x : Str} {c : Value} {np : Pos} {Q : Value → Shared → Prop} {E : Value → Shared → Prop}, Names X x c → Q c { u' with heap := hp3 } →
        wpAny (model X.prog X.w) (X.A.mark (some (.ref a))) (eval (.Name x np) X.env) Q E { u' with heap := hp3 } := fun {x c np Q E} nm q => by
      rcases nm with ⟨hg, hd, hm | ⟨hm, hv, hx⟩⟩
      · exact ld_glob (X := X.suite a ((a, o3) :: (X.pn ++ pins))) S3 hg hm q hd
      · exact ld_blt (X := X.suite a ((a, o3) :: (X.pn ++ pins))) S3 hg hm hv q hx hd
    have go : ∀ {hs' : List ExceptHandler} {l' : List (Value × Option Nat × SU)}, HdsX X hs' l' → wMix X.K Wo D l' k d z2 g2 →
        wpAny (model X.prog X.w) X.A (handleBy (.ref a) X.env hs') (SP X pins D) X.xe { u' with heap := hp3 } := by
      intro hs' l' hk
      induction hk with
      | nil =>
        intro wish
        refine wpAny_handleBy_nil ?_
        obtain ⟨q1, q2, q3, oe, fs, T, oT, ts', eo, zc, dd, one, more⟩ := id fl3
        unfold PySem.passOn
        refine wpAny_bind (wpAny_field eo dd one ?_)
        rw [if_neg (show ¬ ((Value.ref T == Value.none) = true) by simp)]
        have away : wpAny (model X.prog X.w) X.A (setFlight (.ref a) X.env.frame) (fun _ u4 => wpAny (model X.prog X.w) X.A (throw (.ref a) : Sem Flow) (SP X pins D) X.xe u4) X.xe { u' with heap := hp3 } := by
          rw [efr]
          refine HandSPX.setFlight_upZ fl3 fun hp4 sky4 up4 => wpAny_throw (tkO _ _ ?_)
          exact ⟨a, B, sI, pins, z2, g2, k, d, rfl, J, nb, (up.trans up3).trans up4, .inr (.inr (est ▸ sky4)), na, os, ag, wish⟩
        first
          | exact wpAny_bind (wpAny_pure (wpAny_bind away))
          | exact wpAny_bind away
      | @one x c t b bs p1 p2 hs2 l2 nm su r ih =>
        intro wish
        obtain ⟨yes, ex, wy, wn⟩ := wish
        refine wpAny_handleBy_cons (codeAny_handlers_test (named nm ((PySem.W.exm_one (M := model X.prog X.w) J3.kIn looksT ex).here ?_))) (by intro q; cases q)
        cases yes with
        | true =>
          refine codeAny_handlers_suite (HandSPX.lands_againZ fl3 fun hp4 fl4 up4 => ?_)
          have J4 : Inv X pins z2 g2 { u' with heap := hp4 } := J.landed nb fl4.1 ((up.trans up3).trans up4) os ag
          obtain ⟨o4, fs4, e4, zc4, d4⟩ := fl4.there
          refine wpAny_mono ((su a o4 k d (X.pn ++ pins) zc4 ⟨_, d4⟩).run [] _ _ g2 _ (J4.suite e4 d4 na nL nF) (wy rfl a na)) (fun fl u6 sp6 => ?_) (fun _ _ q => False.elim q)
          cases fl with
          | ret v =>
            obtain ⟨v6, z6, g6, S6, r6, q6⟩ := sp6
            exact ⟨_, _, _, S6.unsuite good, r6, q6⟩
          | _ =>
            obtain ⟨z6, g6, S6, q6⟩ := sp6
            exact ⟨_, _, S6.unsuite good, q6⟩
        | false =>
          show wpAny _ X.A (handleBy (.ref a) X.env hs2) _ _ _
          exact ih (wn rfl)
      | @asn i n x c t b bs p1 p2 hs2 l2 nm nd ni nl su r ih =>
        intro wish
        obtain ⟨yes, ex, wy, wn⟩ := wish
        refine wpAny_handleBy_cons (codeAny_handlers_test (named nm ((PySem.W.exm_one (M := model X.prog X.w) J3.kIn looksT ex).here ?_))) (by intro q; cases q)
        cases yes with
        | true =>
          refine codeAny_handlers_suite_as (HandSPX.lands_againZ fl3 fun hp4 fl4 up4 => ?_)
          have J4 : Inv X pins z2 g2 { u' with heap := hp4 } := J.landed nb fl4.1 ((up.trans up3).trans up4) os ag
          obtain ⟨o4, fs4, e4, zc4, d4⟩ := fl4.there
          refine store_ok (X := X.suite a ((a, o4) :: (X.pn ++ pins))) (v := .ref a) (J4.suite e4 d4 na nL nF) nd ni (.inl nl) rfl (fun u5 S5 => ?_) (.inr nl)
          refine wpAny_mono ((su a o4 k d (X.pn ++ pins) zc4 ⟨_, d4⟩).run [] u5 _ g2 _ S5 (wy rfl a na)) (fun fl u6 sp6 => ?_) (fun _ _ q => False.elim q)
          have left : ∀ {z6 : L2.St} {g6 : Hp} {R : Shared → Prop}, Inv (X.suite a ((a, o4) :: (X.pn ++ pins))) [] z6 g6 u6 → (∀ u7, Inv X pins (z6.set i none) g6 u7 → R u7) →
              wpAny (model X.prog X.w) X.A (do bindName X.env n .none; unbindBehindTheSuite X.env n p2) (fun _ u7 => R u7) X.xe u6 := fun {z6 g6 R} S6 q => gone_ok (S6.unsuite good) nd ni nl q
          cases fl with
          | ret v =>
            obtain ⟨v6, z6, g6, S6, r6, q6⟩ := sp6
            exact left S6 fun u7 J7 => ⟨_, _, _, J7, r6, q6⟩
          | _ =>
            obtain ⟨z6, g6, S6, q6⟩ := sp6
            exact left S6 fun u7 J7 => ⟨_, _, J7, q6⟩
        | false =>
          show wpAny _ X.A (handleBy (.ref a) X.env hs2) _ _ _
          exact ih (wn rfl)
    exact go hh wish
  · cases fl with
    | ret v =>
      obtain ⟨v2, z2, g2, J2, r2, q2⟩ := sp1
      exact ⟨v2, z2, g2, J2.ofTry good, r2, q2⟩
    | next =>
      obtain ⟨z2, g2, J2, q2⟩ := sp1
      exact wpAny_execs_nil ⟨z2, g2, J2.ofTry good, q2⟩
    | _ =>
      obtain ⟨z2, g2, J2, q2⟩ := sp1
      exact ⟨z2, g2, J2.ofTry good, q2⟩
end
/-! ### defs as they stand behind the top -/
def Df (K : PySem.W.Frag) (mg : Str → Option Value) (x : Str) (st : Stmt) (ps : List Str) : Prop :=
  ∃ f fd, Fun K x x st f fd ∧ mg x = some (.ref f) ∧ Binds K fd ps []
/-- with defaults; one is left out in some call -/
def DfD (K : PySem.W.Frag) (mg : Str → Option Value) (x : Str) (st : Stmt) (ps : List Str) (dvs : List V) : Prop :=
  ∃ f fd, FunD K x x (defArgs st) (defBody st) (defScope st) dvs [] f fd ∧ mg x = some (.ref f) ∧ Binds K fd ps []
/-- an own error without an __init__ -/
structure XP (K : PySem.W.Frag) (mg : Str → Option Value) (x : Str) (C : Addr) : Prop where
  gC : mg x = some (.ref C)
  xC : PySem.W.excIn K C [.type "ValueError", .type "Exception", .type "BaseException", .type "object"] "ValueError.__new__" = true
  kC : PySem.W.keepIn K (.ref C) = true
  eC : PySem.W.subIn K (.ref C) (.type "BaseException") = some true
  tC : PySem.W.typeIn K (.ref C) = some (.type "type")
theorem XP.made {X : Cx} {x : Str} {C : Addr} {p pos : Pos} (T : XP X.K X.mg x C) (hg : Gl X x) (hdb : (x == ("__debug__" : Str)) = false := by decide) :
    PMk X (.Call (.Name x p) [] [] pos) (fun _ H Q => Q (.ref C) none H) := by
  intro pins s z H Q I q
  refine wpAny_Call_Name_kw (ld_glob I hg T.gC (PySem.W.callWith_K0 I.kIn T.kC ?_) hdb)
  obtain ⟨bm, N, nm, qn, bs, hdct, sn, sub, ab, col, dd, k0, k1, k2, k3, k5, mN, hC, hN, hni, tl⟩ := exc_obj I.kIn T.xC
  exact wpAny_call_exc_subT F.excBase_ValueError tl hC hN hni (fun h' e hm => mk_of I hm (raises_own T.eC T.tC) q (I.hok.gone hm.new)) (by show 0 ≤ sizeLine; exact Nat.zero_le _)
/-- an own error whose __init__ keeps its arguments -/
structure XI (K : PySem.W.Frag) (mg : Str → Option Value) (x qual : Str) (st : Stmt) (ps : List Str) (C : Addr) : Prop where
  gC : mg x = some (.ref C)
  ox : OexC K C
  ini : ∃ f fd, Fun K "__init__" qual st f fd ∧ Binds K fd ps [] ∧ PySem.W.findIn K (.ref C) "__init__" = some (some (.ref f)) ∧ PySem.W.typeIn K (.ref f) = some (.type "function")
/-- the promise of an __init__ that keeps one argument as f -/
def spI1 (K : PySem.W.Frag) (C : Addr) (f : Str) : Sp := fun vs H Q _ => ∃ a v, vs = [.ref a, v] ∧ H a = some (exo a C none) ∧ OexC K C ∧ PySem.W.findIn K (.ref C) f = some none ∧
  ∀ dx, H dx = none → dx ≠ a → Q .non (upd (upd H dx (exd dx [(f, v)])) a (exo a C (some dx)))
/-- .. two arguments as f and g -/
def spI2 (K : PySem.W.Frag) (C : Addr) (f g : Str) : Sp := fun vs H Q _ => ∃ a v u, vs = [.ref a, v, u] ∧ H a = some (exo a C none) ∧ OexC K C ∧ PySem.W.findIn K (.ref C) f = some none ∧ PySem.W.findIn K (.ref C) g = some none ∧
  ∀ dx, H dx = none → dx ≠ a → Q .non (upd (upd (upd H dx (exd dx [(f, v)])) a (exo a C (some dx))) dx (exd dx [(g, u), (f, v)]))
theorem heap_made {H : Hp} {a d : Addr} {o1 o2 o3 o : HO} (ha : H a = none) (n : d ≠ a) : upd (del (upd (upd (upd H a o1) d o2) a o3) a) d o = upd H d o := by
  funext b
  by_cases hd : b = d
  · rw [hd, upd_same, upd_same]
  · rw [upd_ne hd, upd_ne hd]
    by_cases hb : b = a
    · rw [hb, del_same, ha]
    · rw [del_ne hb, upd_ne hb, upd_ne hd, upd_ne hb]
theorem raise1 {K : PySem.W.Frag} {C : Addr} {f : Str} {H : Hp} {v : V} {Q : XK} {E : XK} (T : OexC K C) (n : PySem.W.findIn K (.ref C) f = some none) (q : ∀ d, H d = none → Q (.ref C) (some d) (upd H d (.xd [(f, v)]))) :
    [v].length ≤ 1000 ∧ ∀ a, H a = none → spI1 K C f (.ref a :: ([v] ++ [])) (upd H a (exo a C none))
      (fun y H2 => y = .non ∧ ∃ (d : Addr) (fs : List (Str × V)), H2 a = some (exo a C (some d)) ∧ H2 d = some (exd d fs) ∧ H d = none ∧ Q (.ref C) (some d) (upd (del H2 a) d (.xd fs))) E := by
  refine ⟨(show 1 ≤ 1000 by decide), fun a ha => ⟨a, v, rfl, upd_same, T, n, fun dx hx ne => ⟨rfl, dx, [(f, v)], upd_same, ?_, ?_, ?_⟩⟩⟩
  · rw [upd_ne ne, upd_same]
  · rwa [upd_ne ne] at hx
  · rw [upd_ne ne] at hx
    rw [heap_made ha ne]
    exact q dx hx
theorem heap_made2 {H : Hp} {a d : Addr} {o1 o2 o3 o4 o : HO} (ha : H a = none) (n : d ≠ a) : upd (del (upd (upd (upd (upd H a o1) d o2) a o3) d o4) a) d o = upd H d o := by
  funext b
  by_cases hd : b = d
  · rw [hd, upd_same, upd_same]
  · rw [upd_ne hd, upd_ne hd]
    by_cases hb : b = a
    · rw [hb, del_same, ha]
    · rw [del_ne hb, upd_ne hd, upd_ne hb, upd_ne hd, upd_ne hb]
theorem raise2 {K : PySem.W.Frag} {C : Addr} {f g : Str} {H : Hp} {v u : V} {Q : XK} {E : XK} (T : OexC K C) (n : PySem.W.findIn K (.ref C) f = some none) (m : PySem.W.findIn K (.ref C) g = some none)
    (q : ∀ d, H d = none → Q (.ref C) (some d) (upd H d (.xd [(g, u), (f, v)]))) :
    [v, u].length ≤ 1000 ∧ ∀ a, H a = none → spI2 K C f g (.ref a :: ([v, u] ++ [])) (upd H a (exo a C none))
      (fun y H2 => y = .non ∧ ∃ (d : Addr) (fs : List (Str × V)), H2 a = some (exo a C (some d)) ∧ H2 d = some (exd d fs) ∧ H d = none ∧ Q (.ref C) (some d) (upd (del H2 a) d (.xd fs))) E := by
  refine ⟨(show 2 ≤ 1000 by decide), fun a ha => ⟨a, v, u, rfl, upd_same, T, n, m, fun dx hx ne => ⟨rfl, dx, [(g, u), (f, v)], ?_, upd_same, ?_, ?_⟩⟩⟩
  · rw [upd_ne (Ne.symm ne), upd_same]
  · rwa [upd_ne ne] at hx
  · rw [upd_ne ne] at hx
    rw [heap_made2 ha ne]
    exact q dx hx
/-! ### numbers and kinds of things -/
theorem cdw {i j : Int} (h : 0 < j) (b : j < 9223372036854775808) : CDivW i j :=
  wide_div (b := 63) h (by have e : (2 : Nat) ^ 63 = 9223372036854775808 := by decide
                           omega) (by decide) (by decide)
theorem cml {i j : Int} (h : -18446744073709551616 < i) (b : i < 18446744073709551616) : CMul i j := by
  have e : (2 : Int) ^ 64 = 18446744073709551616 := by decide
  exact .inl ⟨by omega, by omega⟩
theorem cmr {i j : Int} (h : -18446744073709551616 < j) (b : j < 18446744073709551616) : CMul i j := by
  have e : (2 : Int) ^ 64 = 18446744073709551616 := by decide
  exact .inr ⟨by omega, by omega⟩
/-- the things that a law hands in: None, bools, ints, texts, tuples, lists, dicts -/
def Plain (H : Hp) : V → Prop
  | .non => True
  | .bl _ => True
  | .int _ => True
  | .str _ => True
  | .ref a => (∃ xs, H a = some (.tup xs)) ∨ (∃ xs, H a = some (.lst xs)) ∨ ∃ kvs, H a = some (.dK kvs)
  | _ => False
def isI : V → Bool
  | .int _ => true
  | _ => false
def isB : V → Bool
  | .bl _ => true
  | _ => false
/-- a whole number from lo to hi -/
def whole (x : V) (lo hi : Int) : Bool := match x with
  | .int i => decide (lo ≤ i) && decide (i ≤ hi)
  | _ => false
theorem Plain.same {H H' : Hp} {x : V} (s : Same H H') (h : Plain H x) : Plain H' x := by
  cases x with
  | ref a =>
    rcases h with ⟨xs, h⟩ | ⟨xs, h⟩ | ⟨xs, h⟩
    · exact .inl ⟨xs, s _ _ h⟩
    · exact .inr (.inl ⟨xs, s _ _ h⟩)
    · exact .inr (.inr ⟨xs, s _ _ h⟩)
  | _ => exact h
theorem isi_int {K : PySem.W.Frag} {H : Hp} {x : V} {Q : VK} (h : Plain H x) (q : Q (.bl (isI x || isB x)) H) : rIsi K [x, .ty "int"] H Q := by
  cases x with
  | non => exact ⟨_, _, _, _, false, rfl, .ty _, .base .non, kit_ty (by decide +kernel), q⟩
  | bl b => exact ⟨_, _, _, _, true, rfl, .ty _, .base (.bl _), kit_ty (by decide +kernel), q⟩
  | int i => exact ⟨_, _, _, _, true, rfl, .ty _, .base (.int _), kit_ty (by decide +kernel), q⟩
  | str z => exact ⟨_, _, _, _, false, rfl, .ty _, .base (.str _), kit_ty (by decide +kernel), q⟩
  | ref a =>
    rcases h with ⟨xs, h⟩ | ⟨xs, h⟩ | ⟨xs, h⟩
    · exact ⟨_, _, _, _, false, rfl, .ty _, .base (.tup h), kit_ty (by decide +kernel), q⟩
    · exact ⟨_, _, _, _, false, rfl, .ty _, .base (.lst h), kit_ty (by decide +kernel), q⟩
    · exact ⟨_, _, _, _, false, rfl, .ty _, .base (.dK h), kit_ty (by decide +kernel), q⟩
  | byt _ => exact h.elim
  | flt _ => exact h.elim
  | ty _ => exact h.elim
theorem isi_bool {K : PySem.W.Frag} {H : Hp} {x : V} {Q : VK} (h : Plain H x) (q : Q (.bl (isB x)) H) : rIsi K [x, .ty "bool"] H Q := by
  cases x with
  | non => exact ⟨_, _, _, _, false, rfl, .ty _, .base .non, kit_ty (by decide +kernel), q⟩
  | bl b => exact ⟨_, _, _, _, true, rfl, .ty _, .base (.bl _), kit_ty (by decide +kernel), q⟩
  | int i => exact ⟨_, _, _, _, false, rfl, .ty _, .base (.int _), kit_ty (by decide +kernel), q⟩
  | str z => exact ⟨_, _, _, _, false, rfl, .ty _, .base (.str _), kit_ty (by decide +kernel), q⟩
  | ref a =>
    rcases h with ⟨xs, h⟩ | ⟨xs, h⟩ | ⟨xs, h⟩
    · exact ⟨_, _, _, _, false, rfl, .ty _, .base (.tup h), kit_ty (by decide +kernel), q⟩
    · exact ⟨_, _, _, _, false, rfl, .ty _, .base (.lst h), kit_ty (by decide +kernel), q⟩
    · exact ⟨_, _, _, _, false, rfl, .ty _, .base (.dK h), kit_ty (by decide +kernel), q⟩
  | byt _ => exact h.elim
  | flt _ => exact h.elim
  | ty _ => exact h.elim
/-- T // (m - 1) + 1, again and again -/
def room (p t : Int) : Int := t / (p - 1) + 1
def grow (p : Int) : Nat → Int → Int
  | 0, a => a
  | k + 1, a => grow p k a + room p (grow p k a)
theorem grow_le {p : Int} (hp : 2 ≤ p) : ∀ (k : Nat) {a : Int}, 0 ≤ a → 0 ≤ grow p k a ∧ grow p k a ≤ 2 ^ k * (a + 1) - 1
  | 0, a, h => ⟨h, by show a ≤ 2 ^ 0 * (a + 1) - 1; omega⟩
  | k + 1, a, h => by
    obtain ⟨h1, h2⟩ := grow_le hp k h
    have e : (2 : Int) ^ (k + 1) = 2 * 2 ^ k := by rw [Int.pow_succ, Int.mul_comm]
    have r0 : 0 ≤ grow p k a / (p - 1) := Int.ediv_nonneg h1 (by omega)
    have r1 : grow p k a / (p - 1) ≤ grow p k a := Int.ediv_le_self _ h1
    show 0 ≤ grow p k a + (grow p k a / (p - 1) + 1) ∧ grow p k a + (grow p k a / (p - 1) + 1) ≤ 2 ^ (k + 1) * (a + 1) - 1
    rw [e, Int.mul_assoc]
    omega
theorem whole_of {x : V} {lo hi : Int} (h : whole x lo hi = true) : ∃ i, x = .int i ∧ lo ≤ i ∧ i ≤ hi := by
  cases x with
  | int i =>
    have h' : (decide (lo ≤ i) && decide (i ≤ hi)) = true := h
    rw [Bool.and_eq_true, decide_eq_true_eq, decide_eq_true_eq] at h'
    exact ⟨i, rfl, h'.1, h'.2⟩
  | _ => exact absurd (show false = true from h) Bool.false_ne_true
theorem whole_int {i lo hi : Int} (h1 : lo ≤ i) (h2 : i ≤ hi) : whole (.int i) lo hi = true := by
  show (decide (lo ≤ i) && decide (i ≤ hi)) = true
  rw [decide_eq_true h1, decide_eq_true h2]
  rfl
theorem whole_no {i lo hi : Int} (h : i < lo ∨ hi < i) : whole (.int i) lo hi = false := by
  show (decide (lo ≤ i) && decide (i ≤ hi)) = false
  rcases h with h | h
  · rw [decide_eq_false (by omega : ¬ lo ≤ i)]
    rfl
  · rw [decide_eq_false (by omega : ¬ i ≤ hi), Bool.and_false]
/-- a def that checks a number up to m, then the people from 2 to 5, and then does R -/
def spTwo (cX : Addr) (m : Int) (cP : Addr) (R : Int → Int → VK → Hp → Prop) : Sp := fun vs H Q E => ∃ x y : V, vs = [x, y] ∧ Plain H x ∧ Plain H y ∧
  (whole x 0 m = false → ∀ d, H d = none → E (.ref cX) (some d) (upd H d (.xd [("most", .int m)]))) ∧ (whole x 0 m = true → whole y 2 5 = false → E (.ref cP) none H) ∧
  ∀ t p : Int, x = .int t → y = .int p → 0 ≤ t → t ≤ m → 2 ≤ p → p ≤ 5 → R t p Q H
theorem len_two {cX cP : Addr} {m : Int} {R : Int → Int → VK → Hp → Prop} {vs : List V} {H : Hp} {Q : VK} {E : XK} (h : spTwo cX m cP R vs H Q E) : vs.length = 2 := by
  obtain ⟨_, _, rfl, _⟩ := h; rfl
/-- the fewest steps that reach t -/
def Least (p t : Int) (n : Nat) : Prop := (∀ k, k < n → grow p k 0 < t) ∧ t ≤ grow p n 0
/-! ### for k, x in enumerate(xs) -/
theorem for_enum {K : PySem.W.Frag} {a : Addr} {xs : List V} {g : TG} {tb : TS} {D : Ends} {z0 : L2.St} {H : Hp} (Pv : Nat → L2.St → Hp → Prop) (h0 : Pv 0 z0 H) (hl : ∀ i z h, i ≤ xs.length → Pv i z h → SqL K h a xs)
    (hs : ∀ i x T z h, xs[i]? = some x → h T = none → Pv i z h → g (.ref T) z (upd h T (.tup [.int (i : Nat), x])) fun z2 h2 => tb { D with nx := Pv (i + 1), ct := Pv (i + 1), bk := D.nx } z2 h2) (hd : ∀ z h, Pv xs.length z h → D.nx z h) :
    ∃ W : Nat → Nat → L2.St → Hp → Prop, (∃ m, W 0 m z0 H) ∧ ∀ i m z h, W i m z h →
      ((Ite K a).stop i h ∧ D.nx z h) ∨ ((Ite K a).go i h ∧ ∃ N : L2.St → Hp → Prop, (∀ z' h', N z' h' → ∃ m', m' < m ∧ W (i + 1) m' z' h') ∧ ∀ x h', (Ite K a).yld i h x h' → g x z h' fun z2 h2 => tb { D with nx := N, ct := N, bk := D.nx } z2 h2) := by
  refine ⟨fun i m z h => m = xs.length - i ∧ i ≤ xs.length ∧ Pv i z h, ⟨xs.length, by simp, Nat.zero_le _, h0⟩, ?_⟩
  rintro i m z h ⟨rfl, hi, p⟩
  have q := hl i z h hi p
  by_cases hlt : i < xs.length
  · refine .inr ⟨⟨xs, xs[i], q, by simp [hlt]⟩, Pv (i + 1), fun z' h' p' => ⟨xs.length - (i + 1), by omega, rfl, hlt, p'⟩, fun v h' y => ?_⟩
    obtain ⟨T, x, rfl, hT, rfl, hx⟩ := y
    exact hs i x T z h (hx xs q) hT p
  · obtain rfl : i = xs.length := by omega
    exact .inl ⟨⟨xs, q, Nat.le_refl _⟩, hd z h p⟩
/-! ### the hand of a law: its list [cells, place, rest, total], all of them whole numbers from 0 -/
structure HandAt (H : Hp) (h q : Addr) : Prop where
  ex : ∃ (cs : List Int) (i r t : Int), H h = some (.lst [.ref q, .int i, .int r, .int t]) ∧ H q = some (.lst (cs.map V.int)) ∧ cs.length ≤ 63 ∧ (∀ c, c ∈ cs → 0 ≤ c) ∧ 0 ≤ i ∧ i ≤ cs.length ∧ 0 ≤ r ∧ 0 ≤ t ∧ t < 2147483629
/-- all that stood stands, but for what is at h -/
def But (h : Addr) (H H' : Hp) : Prop := ∀ b o, H b = some o → b ≠ h → H' b = some o
theorem But.refl (h : Addr) (H : Hp) : But h H H := fun _ _ e _ => e
theorem But.trans {h : Addr} {H1 H2 H3 : Hp} (a : But h H1 H2) (b : But h H2 H3) : But h H1 H3 := fun c o e n => b c o (a c o e n) n
theorem But.of {h : Addr} {H H' : Hp} (s : Same H H') : But h H H' := fun b o e _ => s b o e
theorem But.new {h p : Addr} {H : Hp} {o : HO} (hp : H p = none) : But h H (upd H p o) := fun b u e _ => by
  rw [upd_ne (ne_of_none e hp)]; exact e
theorem But.upd {h : Addr} {H : Hp} {o : HO} : But h H (L2.upd H h o) := fun b u e n => by
  rw [upd_ne n]; exact e
theorem But.then {h : Addr} {H H' : Hp} {o : HO} (a : But h H H') : But h H (L2.upd H' h o) := a.trans But.upd
theorem Same.new {p : Addr} {H : Hp} {o : HO} (hp : H p = none) : Same H (upd H p o) := fun b u e => by
  rw [upd_ne (ne_of_none e hp)]; exact e
theorem HandAt.ne {H : Hp} {h q : Addr} (x : HandAt H h q) : h ≠ q := by
  obtain ⟨cs, i, r, t, h1, h2, _⟩ := x.ex
  intro e
  rw [e, h2] at h1
  cases cs with
  | nil => cases h1
  | cons c cs => cases h1
theorem HandAt.same {H H' : Hp} {h q : Addr} (x : HandAt H h q) (s : Same H H') : HandAt H' h q := by
  obtain ⟨cs, i, r, t, h1, h2, m⟩ := x.ex
  exact ⟨cs, i, r, t, s _ _ h1, s _ _ h2, m⟩
theorem HandAt.has {H : Hp} {h q : Addr} (x : HandAt H h q) : ∃ o, H h = some o := by
  obtain ⟨cs, i, r, t, h1, _⟩ := x.ex
  exact ⟨_, h1⟩
theorem HandAt.off {H : Hp} {h q p : Addr} (x : HandAt H h q) (hp : H p = none) : p ≠ h := by
  obtain ⟨o, e⟩ := x.has
  exact fun z => by rw [z, e] at hp; cases hp
/-- a draw's promise: some number below many, the hand as a hand -/
def spDraw : Sp := fun vs H Q _ => ∃ (h q : Addr) (m : Int), vs = [.ref h, .int m] ∧ HandAt H h q ∧ 0 < m ∧ m < 9223372036854775808 ∧
  ∀ d H', 0 ≤ d → d < m → HandAt H' h q → But h H H' → Q (.int d) H'
def spHand (K : PySem.W.Frag) : Sp := fun vs H Q _ => ∃ (a : Addr) (ns : List Int), vs = [.ref a] ∧ SqL K H a (ns.map V.int) ∧ ns.length ≤ 63 ∧
  ∀ h q H', Same H H' → HandAt H' h q → Q (.ref h) H'
def spMix : Sp := fun vs H Q _ => ∃ n t : Int, vs = [.int n, .int t] ∧ 0 ≤ n ∧ n < 2147483648 ∧ 0 ≤ t ∧ t ≤ 1000 ∧ ∀ r, 0 ≤ r → Q (.int r) H
theorem nat_map {ns : List Int} {i : Nat} {y : V} (h : (ns.map V.int)[i]? = some y) : ∃ c, ns[i]? = some c ∧ y = .int c := by
  rw [List.getElem?_map] at h
  cases e : ns[i]? with
  | none => rw [e] at h; cases h
  | some c => rw [e] at h; exact ⟨c, rfl, (Option.some.inj h).symm⟩
theorem two_ok {cX cP : Addr} {m : Int} {R : Int → Int → VK → Hp → Prop} {t p : Int} {H : Hp} {Q : VK} {E : XK} (t0 : 0 ≤ t) (t1 : t ≤ m) (p0 : 2 ≤ p) (p1 : p ≤ 5) (r : R t p Q H) : spTwo cX m cP R [.int t, .int p] H Q E :=
  ⟨_, _, rfl, True.intro, True.intro, fun a => absurd (a.symm.trans (whole_int t0 t1)) (by decide), fun _ b => absurd (b.symm.trans (whole_int p0 p1)) (by decide), fun t' p' e1 e2 _ _ _ _ => by
    cases e1
    cases e2
    exact r⟩
theorem isi_tuple {K : PySem.W.Frag} {H : Hp} {a : Addr} {xs : List V} {Q : VK} (h : H a = some (.tup xs)) (q : Q (.bl true) H) : rIsi K [.ref a, .ty "tuple"] H Q :=
  ⟨_, _, _, _, true, rfl, .ty _, .base (.tup h), kit_ty (by decide +kernel), q⟩
theorem pow2_le {k n : Nat} (h : k ≤ n) : (2 : Int) ^ k ≤ 2 ^ n := by
  have e : (2 : Nat) ^ k ≤ 2 ^ n := Nat.pow_le_pow_right (by decide) h
  have c : ∀ j : Nat, (2 : Int) ^ j = ((2 ^ j : Nat) : Int) := fun j => by
    induction j with
    | zero => rfl
    | succ j ih => rw [Int.pow_succ, ih, Nat.pow_succ]; omega
  rw [c, c]
  omega
/-- two tuples (text, number) with the same data -/
theorem ne_pair {K : PySem.W.Frag} {H : Hp} {a b : Addr} {x : Str} {n : Int} {Q : VK} (ha : H a = some (.tup [.str x, .int n])) (hb : H b = some (.tup [.str x, .int n])) (sx : SeqAt.shaped (.tuple [.str x, .int n]) = true) (q : Q (.bl false) H) : rNeD K (.ref a) (.ref b) H Q := by
  refine ⟨.tuple [.str x, .int n], .tuple [.str x, .int n], .tup (SqT.of ha) (.cons (.str _) (.cons (.int _) .nil)), .tup (SqT.of hb) (.cons (.str _) (.cons (.int _) .nil)), sx, sx, ?_⟩
  have e : PyData.eqv (.tuple [.str x, .int n]) (.tuple [.str x, .int n]) = true := by simp [PyData.eqv, PyData.eqvAll]
  rw [e]
  exact q
theorem Least.one {p t : Int} {n m : Nat} (a : Least p t n) (b : Least p t m) : n = m := by
  rcases Nat.lt_trichotomy n m with h | h | h
  · have z := b.1 n h
    have y := a.2
    omega
  · exact h
  · have z := a.1 m h
    have y := b.2
    omega
/-- what «except» asks of two classes -/
theorem exm_mk {K : PySem.W.Frag} {S R : Addr} {b : Bool} (h1 : PySem.W.subIn K (.ref S) (.type "BaseException") = some true) (h2 : PySem.W.isClsIn K S = true) (h3 : PySem.W.typeIn K (.ref S) = some (.type "type")) (h4 : PySem.W.subIn K (.ref R) (.ref S) = some b) :
    PySem.W.exmOne K (.ref R) (.ref S) = some b := by
  have e1 : (PySem.W.subIn K (.ref S) (.type "BaseException") == some true) = true := by rw [h1]; rfl
  have h2' : (PySem.W.clsIn K S).isSome = true := h2
  have e2 : ((PySem.W.clsIn K S).isSome && PySem.W.typeIn K (.ref S) == some (.type "type")) = true := by rw [h2', h3]; rfl
  show (if _ then (if _ then _ else none) else none) = some b
  rw [if_pos e1, if_pos e2]
  exact h4
end Gen
set_option Elab.async false
set_option linter.all false
set_option maxRecDepth 100000
set_option maxHeartbeats 4000000
/-! ## More rules: == and != of own instances, sorted and sum of tuples, enumerate of tuples -/
namespace Gen
open PySem PySem.Spec PyProof.Rows L2
section
variable {X : Cx} {pins : List (Addr × Obj)} {z : L2.St} {H : Hp} {s : Shared} {n : Nat} {f C : Addr} {fd : FuncData} {ps : List Str} {sp : Sp} {vs : List V} {us : List Value} {Q : VK}
theorem call_below {A : Around} (F : FnOk X.prog X.w X.K X.mg X.base CX0 n f fd ps sp) (hb : L2.Binds X.K fd ps []) (room : Room n A) (efr : A.frames = X.A.frames) (I : Inv X pins z H s) (r : Vals vs us) (q : sp vs H Q E0) :
    wpAny (model X.prog X.w) A (call (.ref f) us) (EP X pins z Q) X.xe s := by
  have e0 : Env0 X.prog X.w X.K X.mg X.base A X.stack s H := by
    have e := I.env0
    exact ⟨by rw [efr]; exact e.frames, e.mod, e.bs, e.bsz, e.funs, e.frf, e.hok, e.bare⟩
  have hl := F.len _ _ _ _ q
  have b := hb s us I.kIn (by rw [List.append_nil, ← r.length]; exact hl)
  rw [List.append_nil] at b
  refine wpAny_call (codeAny_mono (F.run A X.stack s H ⟨us, []⟩ us vs Q E0 room e0 b r q) fun o s' hq => ?_)
  cases o with
  | error e => exact False.elim hq
  | ok fl =>
    cases fl with
    | ret u => exact I.after hq
    | _ => exact False.elim hq
/-- == (neg: !=) of an instance of the class at C by its own __eq__, whatever stands on the right -/
def rOwnEq (K : PySem.W.Frag) (C : Addr) (sp : Sp) (neg : Bool) : R2 := fun x y H Q => ∃ a dx fs t, x = .ref a ∧ H a = some (.ins C dx fs) ∧ TyX K H y t ∧ PySem.W.notFirst K C t = true ∧
  sp [x, y] H (fun r H' => ∃ b : Bool, r = .bl b ∧ Q (.bl (if neg = true then !b else b)) H') E0
theorem op_eqI (F : FnOk X.prog X.w X.K X.mg X.base CX0 n f fd ps sp) (hb : L2.Binds X.K fd ps []) (hs : PySem.W.findIn X.K (.ref C) "__eq__" = some (some (.ref f))) (hf : PySem.W.isFn X.K (.ref f) = true) (hr : Room n X.A) :
    OpR X (compareOp .Eq) (rOwnEq X.K C sp false) := by
  intro pins s z H x y v u Q I rx ry h
  obtain ⟨a, dx, fs, t, rfl, ha, ty, nf, q⟩ := h
  cases (show v = Value.ref a from rx)
  obtain ⟨mA, J, _⟩ := ins_get I.hok ha
  obtain ⟨od, J, _⟩ := J.look
  obtain ⟨m, hF⟩ := I.fr
  obtain ⟨P, Z, p, _⟩ := kit_of I ry ty
  show wpAny _ X.A (richCompare .Eq (.ref a) u) _ _ s
  refine PySem.W.cmp_K (op := .Eq) (tb := t) hr.units0 hF I.ok.mod.kin J (Z.ty _ _ I.kIn p) nf hs hf ?_
  refine wpAny_mono (call_below F hb hr rfl I (show Vals [V.ref a, y] [Value.ref a, u] from .cons rfl (.cons ry .nil)) q) (fun w s' e => ?_) fun _ _ e => e
  obtain ⟨r, H', I', rr, b, rfl, qz⟩ := e
  cases (show w = Value.bool b from rr)
  exact ⟨.bl b, H', I', rfl, qz⟩
end
section
variable {M : Model} {A : Around} {E : Value → Shared → Prop} {s : Shared} {K : PySem.W.Frag} {x C : Addr} {ox : Obj} {od : Option Obj} {name : Str} {id : String}
theorem ifBound_B {args : List Value} {Q : Option Value → Shared → Prop} (Xk : K.In s.heap) (I : PySem.W.InstAt s.heap x ox C od) (hs : PySem.W.findIn K (.ref C) name = some (some (.builtin id)))
    (bd : ∀ self, bindSpecial (.builtin id) self = pure (.builtin id, [self])) (h : wpAny M A (call (.builtin id) (.ref x :: args)) (fun v => Q (some v)) E s) : wpAny M A (callSpecialIfBound? (.ref x) name args) Q E s := by
  simp only [callSpecialIfBound?, bindSpecialIfBound?]
  refine wpAny_holding (wpAny_bind (wpAny_bind (wpAny_bind (I.type.here ((PySem.W.looks_findIn Xk hs).here ?_)))))
  simp only [bd]
  refine wpAny_bind (wpAny_askSetting (wpAny_ite ?_))
  have done : wpAny M A (call (.builtin id) ([.ref x] ++ args) >>= fun v => pure (some v)) Q E s := wpAny_bind (wpAny_mono h (fun v s' q => wpAny_pure q) fun _ _ q => q)
  split
  · exact wpAny_bind (wpAny_pure (wpAny_pure done))
  · exact wpAny_tryCatch (wpAny_bind (wpAny_pure (wpAny_pure done)))
end
section
variable {prog : Program} {w : World} {A : Around} {E : Value → Shared → Prop} {s : Shared} {K : PySem.W.Frag} {x C f : Addr} {ox : Obj} {od : Option Obj} {u tb : Value}
theorem ne_below {Q : Value → Shared → Prop} (hu : A.units + 1 < cLine) (Xk : K.In s.heap) (I : PySem.W.InstAt s.heap x ox C od) (hb : PySem.W.Looks (model prog w) s.heap (typeOf u) tb) (hn : PySem.W.notFirst K C tb = true)
    (hs : PySem.W.findIn K (.ref C) "__ne__" = some (some (.builtin "object.__ne__"))) (he : PySem.W.findIn K (.ref C) "__eq__" = some (some (.ref f))) (hf : PySem.W.isFn K (.ref f) = true) (hm : PySem.W.mroIn K C (.type "object") = some true)
    (h : wpAny (model prog w) A.in1 (call (.ref f) [.ref x, u]) (fun v s' => ∃ b, v = .bool b ∧ Q (.bool (!b)) s') E s) : wpAny (model prog w) A (richCompare .NotEq (.ref x) u) Q E s := by
  have sub : PySem.W.Looks (model prog w) s.heap (isInstance (.ref x) (.type "object")) true := I.type.andThen (PySem.W.looks_mroIn Xk hm)
  have inner : wpAny (model prog w) A.in1 (Builtin.«object.__ne__» ⟨[.ref x, u], []⟩) (fun fin s' => ∃ v, fin = .done (.ret v) ∧ v ≠ .notImplemented ∧ Q v s') E s := by
    unfold Builtin.«object.__ne__»
    repeat (first
      | with_reducible refine wpAny_cRoomFor (show A.in1.units < cLine from hu) ?_
      | (refine wpAny_bind (m := callSpecialIfBound? (.ref x) (Str.ofString "__eq__") [u])
          (PySem.W.ifBound_K Xk I he hf (wpAny_mono h (fun r s' hr => by
            obtain ⟨b, rfl, hq⟩ := hr
            repeat (first | exact ⟨_, rfl, (fun e => nomatch e), hq⟩ | exact wpAny_pure ⟨_, rfl, (fun e => nomatch e), hq⟩ | (refine wpAny_bind (m := truthy (.bool _)) (wpAny_truthy_bool ?_)) | wp_step)) fun _ _ e => e)))
      | wp_step)
  have one : wpAny (model prog w) A (tryCompare (.ref x) (cmpInfo .NotEq).2.1 u) (fun r s' => ∃ v, r = some v ∧ Q v s') E s := by
    unfold tryCompare
    refine wpAny_bind (ifBound_B Xk I hs F.slot_object_ne.bind (wpAny_call (codeAny_call_builtin F.slot_object_ne.plain F.cmpEntry_ne
      (@PySem.W.check_slot (model prog w) _ _ s "object.__ne__" "object" "__ne__" (.ref x) [u] [] _ F.cmpKind_ne F.cmpSplit_ne sub (F.cmpArgs_ne _ _) (wpAny_mono inner (fun fin s' q => ?_) fun _ _ q => q)))))
    obtain ⟨v, rfl, nv, q⟩ := q
    cases v <;> first | exact absurd rfl nv | exact wpAny_pure ⟨_, rfl, q⟩ | exact ⟨_, rfl, wpAny_pure ⟨_, rfl, q⟩⟩
  unfold richCompare
  simp only [oneThing_ref]
  refine wpAny_holding (wpAny_bind (wpAny_cRoomFor (Nat.lt_of_succ_lt hu) ?_))
  refine wpAny_bind (I.type.here (wpAny_bind (hb.here ?_)))
  split
  · rename_i q
    have e : PySem.W.subIn K tb (.ref C) = some false := by
      rcases Bool.or_eq_true_iff.mp hn with e | e
      · rw [beq_iff_eq.mp e] at q
        simp at q
      · exact beq_iff_eq.mp e
    refine wpAny_bind ((PySem.W.looks_subIn Xk e).here ?_)
    simp only [Bool.false_eq_true, if_false]
    refine wpAny_bind (wpAny_mono one (fun r s' y => ?_) fun _ _ e => e)
    obtain ⟨v, rfl, hq⟩ := y
    exact wpAny_pure hq
  · refine wpAny_bind (wpAny_pure ?_)
    simp only [Bool.false_eq_true, if_false]
    refine wpAny_bind (wpAny_mono one (fun r s' y => ?_) fun _ _ e => e)
    obtain ⟨v, rfl, hq⟩ := y
    exact wpAny_pure hq
end
section
variable {X : Cx} {n : Nat} {f C : Addr} {fd : FuncData} {ps : List Str} {sp : Sp}
theorem op_neI (F : FnOk X.prog X.w X.K X.mg X.base CX0 n f fd ps sp) (hb : L2.Binds X.K fd ps []) (hs : PySem.W.findIn X.K (.ref C) "__ne__" = some (some (.builtin "object.__ne__"))) (he : PySem.W.findIn X.K (.ref C) "__eq__" = some (some (.ref f)))
    (hf : PySem.W.isFn X.K (.ref f) = true) (hm : PySem.W.mroIn X.K C (.type "object") = some true) (hr : Room (n + 1) X.A) : OpR X (compareOp .NotEq) (rOwnEq X.K C sp true) := by
  intro pins s z H x y v u Q I rx ry h
  obtain ⟨a, dx, fs, t, rfl, ha, ty, nf, q⟩ := h
  cases (show v = Value.ref a from rx)
  obtain ⟨mA, J, _⟩ := ins_get I.hok ha
  obtain ⟨od, J, _⟩ := J.look
  obtain ⟨P, Z, p, _⟩ := kit_of I ry ty
  show wpAny _ X.A (richCompare .NotEq (.ref a) u) _ _ s
  refine ne_below (by have e := hr.un; omega) I.kIn J (Z.ty _ _ I.kIn p) nf hs he hf hm ?_
  refine wpAny_mono (call_below F hb hr.in1 rfl I (show Vals [V.ref a, y] [Value.ref a, u] from .cons rfl (.cons ry .nil)) q) (fun w s' e => ?_) fun _ _ e => e
  obtain ⟨r, H', I', rr, b, rfl, qz⟩ := e
  cases (show w = Value.bool b from rr)
  exact ⟨b, rfl, .bl (!b), H', I', rfl, qz⟩
end
/-! ### sorted(t), sum(t) -/
section
variable {prog : Program} {w : World} {A : Around} {E : Value → Shared → Prop} {s : Shared} {t : Addr}
theorem sorted_tup {vs : List Value} {ns : List Int} {Q : Value → Shared → Prop} (ht : s.heap.IsTuple t vs.toArray) (hi : IntsAre vs ns) (hz : vs.length ≤ sizeLine)
    (h : ∀ (h1 h' : Heap) (out : Array Value) (ns' : List Int) (e : Nat), (∀ b o, s.heap.get? b = some o → h1.get? b = some o) → (∀ b o, h1.get? b = some o → h'.get? b = some o) → h'.get? h1.objs.size = some (seqObj "list" out e) → IntsAre out.toList ns' → ns'.Perm ns → ns'.Pairwise (· ≤ ·) → Q (.ref h1.objs.size) { s with heap := h' }) :
    wpAny (model prog w) A (call (.builtin "sorted") [.ref t]) Q E s := by
  obtain ⟨o, ho, hc, n, hd⟩ := ht
  refine Calls.call_function_entry kind_sorted plain_sorted entry_sorted (args_sorted1 _) ?_
  unfold Builtin.«sorted»
  refine wpAny_bind (m := checkCount "sorted" 1 1 _) (wpAny_pure ?_)
  refine wpAny_bind (wpAny_collect_seq t (.inr rfl) ho hc hd (fun h1 kp => ?_) (by simpa using hz))
  have e1 : vs.toArray.toList = vs := by simp
  rw [e1]
  refine wpAny_bind (wpAny_newList ?_)
  have at0 : (h1.push (seqObj "list" vs.toArray 0)).get? h1.objs.size = some (seqObj "list" vs.toArray 0) := Heap.get?_push_size _ rfl
  show wpAny _ _ _ _ _ { s with heap := h1.push (seqObj "list" vs.toArray 0) }
  refine wpAny_bind (wpAny_holding (wpAny_call_entry slot_list_sort ⟨_, at0, rfl⟩ entry_list_sort (list_sort_treeAny at0 hi hz fun out ns' a1 a2 a3 => ⟨_, rfl, ?_⟩) (args_list_sort _)))
  obtain ⟨e, he⟩ := sortedHeap_at (out := out) at0
  exact wpAny_pure ⟨_, rfl, h h1 _ out ns' e kp (fun b u hb => by
    have lt := Heap.lt_size hb
    rw [sortedHeap_old (Nat.ne_of_lt lt) (by rw [size_push']; exact Nat.lt_succ_of_lt lt)]
    exact Heap.get?_push_of_some _ hb) he a1 a2 a3⟩
theorem sum_tup {its : List Value} {ns : List Int} {Q : Value → Shared → Prop} (hh : A.handled = none) (ht : s.heap.IsTuple t its.toArray) (hi : IntsAre its ns)
    (h : ∀ h' tk t', (∀ b o, s.heap.get? b = some o → h'.get? b = some o) → Q (.int ns.sum t') { s with heap := h', toks := tk }) : wpAny (model prog w) A (call (.builtin "sum") [.ref t]) Q E s := by
  obtain ⟨xs, e⟩ := hi.allInts.items
  have hn : numsOf (intItems xs).toList = ns := by rw [← e]; exact hi.numsOf
  rw [nums_intItems] at hn
  rw [e] at ht
  have lt : t < s.heap.objs.size := by obtain ⟨_, q, _⟩ := ht; exact Heap.lt_size q
  refine call_sum_walkG (wpAny_pyIter_tuple ht ?_)
  refine ⟨_, _, _, _, _, _, numAt xs, rfl, Walks.tuple (A := A.in1) hh _ t (Nat.ne_of_lt lt) (intItems xs), ⟨⟨_, Heap.get?_push_size _ rfl, rfl, rfl⟩, ht.push _⟩, fun b hb => ?_, (fun _ _ => intItems_at), fun h' tk t' hk => ?_⟩
  · show b < (s.heap.push _).objs.size
    rw [Heap.size_push]
    rcases List.mem_cons.mp hb with rfl | hb
    · exact Nat.lt_succ_self _
    · rw [List.mem_singleton.mp hb]
      exact Nat.lt_succ_of_lt lt
  · have old : ∀ b o, s.heap.get? b = some o → h'.get? b = some o := fun b o q => by
      refine hk b o (fun hm => ?_) (Heap.get?_push_of_some _ q)
      rw [List.mem_singleton.mp hm] at q
      exact absurd (Heap.lt_size q) (Nat.lt_irrefl _)
    have r := h h' tk t' old
    have e2 : (intItems xs).size = xs.size := by simp [intItems]
    rw [e2, preSum_eq, List.take_of_length_le (by simp), hn]
    exact r
end
/-- a list or a tuple -/
def SqE (K : PySem.W.Frag) (H : Hp) (a : Addr) (xs : List V) : Prop := SqL K H a xs ∨ SqT K H a xs
theorem SqE.same {K : PySem.W.Frag} {H H' : Hp} {a : Addr} {xs : List V} (h : SqE K H a xs) (s : Same H H') : SqE K H' a xs := by
  rcases h with h | (h | ⟨o, h⟩) | h
  · exact .inl (s.seq h)
  · exact .inr (.inl (.inl (s _ _ h)))
  · exact .inr (.inl (.inr ⟨o, s _ _ h⟩))
  · exact .inr (.inr h)
section
variable {X : Cx}
/-- sorted of ints, a list or a tuple, of any length -/
def rSortedE (K : PySem.W.Frag) : List V → Hp → VK → Prop := fun vs H Q => ∃ (a : Addr) (ns : List Int), vs = [V.ref a] ∧ SqE K H a (ns.map V.int) ∧
  ∀ (ns' : List Int) (p : Addr), ns'.Perm ns → ns'.Pairwise (· ≤ ·) → H p = none → Q (.ref p) (upd H p (.lst (ns'.map V.int)))
theorem cr_sortedE : CallR X (.builtin "sorted") (rSortedE X.K) := by
  intro pins s z H vs us Q I r h
  obtain ⟨a, ns, rfl, hs, q⟩ := h
  rw [Vals.ref1 r]
  rcases hs with hs | hs
  · obtain ⟨its, rv, hl, hz⟩ := I.list hs
    have hi := rv.ints
    have ln := rv.length
    refine PyProof.Rows.sorted_intsAny hl.isList hi (by omega) fun out ns' h1 h2 h3 => ?_
    obtain ⟨ep, he⟩ := PyProof.Rows.sortedAll_at s.heap its out
    have hlen : (ns'.map V.int).length ≤ sizeLine := by rw [List.length_map, h2.length_eq]; rw [List.length_map] at hz; exact hz
    exact ⟨.ref _, upd H (s.heap.objs.size + 1) (.lst (ns'.map V.int)), I.laid (t' := s.toks) (fun _ _ => PyProof.Rows.sortedAll_old) (Nat.le_succ _) ⟨hlen, out.toList, ep, vals_of_ints h1, he⟩, rfl, q ns' _ h2 h3 (I.hok.fresh (Nat.le_succ _))⟩
  · obtain ⟨its, rv, hl, hz⟩ := I.tuple hs
    have hi := rv.ints
    have ln := rv.length
    refine sorted_tup (show s.heap.IsTuple a its.toArray from hl) hi (by omega) fun h1 h' out ns' e k1 k2 at_ i1 i2 i3 => ?_
    have hlen : (ns'.map V.int).length ≤ sizeLine := by rw [List.length_map, i2.length_eq]; rw [List.length_map] at hz; exact hz
    have I1 : Inv X pins z H { s with heap := h1 } := I.kept (t' := s.toks) k1
    exact ⟨.ref _, upd H h1.objs.size (.lst (ns'.map V.int)), I1.laid (t' := s.toks) k2 (Nat.le_refl _) ⟨hlen, out.toList, e, vals_of_ints i1, at_⟩, rfl, q ns' _ i2 i3 (I1.hok.fresh (Nat.le_refl _))⟩
def rSumE (K : PySem.W.Frag) : List V → Hp → VK → Prop := fun vs H Q => ∃ (a : Addr) (ns : List Int), vs = [V.ref a] ∧ SqE K H a (ns.map V.int) ∧ Q (.int ns.sum) H
theorem cr_sumE (hc : X.calm = true) : CallR X (.builtin "sum") (rSumE X.K) := by
  intro pins s z H vs us Q I r h
  obtain ⟨a, ns, rfl, hs, q⟩ := h
  rcases hs with hs | hs
  · exact cr_sum hc pins s z H _ us Q I r ⟨a, ns, rfl, hs, q⟩
  · obtain ⟨its, rv, hl, _⟩ := I.tuple hs
    rw [Vals.ref1 r]
    exact sum_tup (I.ok.hd hc) (show s.heap.IsTuple a its.toArray from hl) rv.ints fun h' tk t' hk => ⟨.int _, H, I.kept hk, ⟨_, rfl⟩, q⟩
end
end Gen
namespace Gen
open PySem PySem.Spec PyProof.Rows L2
/-- an own class as the top has written it -/
structure Own (K : PySem.W.Frag) (mg : Str → Option Value) (x : Str) (C : Addr) : Prop where
  gC : mg x = some (.ref C)
  cl : Cls K C
  mkI : PySem.W.makesIn K C = true
  kp : PySem.W.keepIn K (.ref C) = true
  ha : PySem.W.findIn K (.ref C) "__class__" = some (some (.builtin "object.__class__"))
  hn : PySem.W.specialIn K (.builtin "object.__class__") "__get__" = some (some (.builtin "getset_descriptor.__get__"))
  ht : PySem.W.takesIn K (.builtin "object.__class__") = some true
  hm : PySem.W.mroIn K C (.type "object") = some true
  ci : PySem.W.isClsIn K C = true
  ct : PySem.W.typeIn K (.ref C) = some (.type "type")
  ne : PySem.W.findIn K (.ref C) "__ne__" = some (some (.builtin "object.__ne__"))
def OwnI (K : PySem.W.Frag) (qual : Str) (st : Stmt) (ps : List Str) (C : Addr) : Prop := ∃ f fd, Fun K "__init__" qual st f fd ∧ Binds K fd ps [] ∧ Mk K C f
def OwnE (K : PySem.W.Frag) (qual : Str) (st : Stmt) (ps : List Str) (C : Addr) : Prop :=
  ∃ f fd, Fun K "__eq__" qual st f fd ∧ Binds K fd ps [] ∧ PySem.W.findIn K (.ref C) "__eq__" = some (some (.ref f)) ∧ PySem.W.isFn K (.ref f) = true
section
variable {K : PySem.W.Frag} {mg : Str → Option Value} {x : Str} {C : Addr} {H : Hp}
theorem Own.ty (o : Own K mg x C) {a dx : Addr} {fs : List (Str × V)} (h : H a = some (.ins C dx fs)) : TyX K H (.ref a) (.ref C) := .base (.ins h o.cl o.ha o.hn o.ht o.hm)
theorem nf_self : PySem.W.notFirst K C (.ref C) = true := by
  unfold PySem.W.notFirst
  rw [show (Value.ref C == Value.ref C) = true from beq_self_eq_true _]
  rfl
theorem nf_tup : PySem.W.notFirst K C (.type "tuple") = true := rfl
theorem nf_non : PySem.W.notFirst K C (.type "NoneType") = true := rfl
theorem Own.kit_self (o : Own K mg x C) : PySem.W.kitOne K (.ref C) (.ref C) = some true := by
  unfold PySem.W.kitOne
  rw [if_pos (beq_self_eq_true _)]
theorem Own.kit_ty (o : Own K mg x C) {T : String} (h : PySem.W.subIn K (.type T) (.ref C) = some false) : PySem.W.kitOne K (.type T) (.ref C) = some false := by
  have e : ((PySem.W.clsIn K C).isSome && PySem.W.typeIn K (.ref C) == some (.type "type")) = true := by
    have a : (PySem.W.clsIn K C).isSome = true := o.ci
    rw [a, o.ct]
    rfl
  show (if _ then _ else (if _ then _ else none)) = some false
  rw [if_neg (fun z => by cases z), if_pos e]
  exact h
theorem sub_tup : PySem.W.subIn K (.type "tuple") (.ref C) = some false := rfl
theorem sub_non : PySem.W.subIn K (.type "NoneType") (.ref C) = some false := rfl
/-- isinstance(x, C) of an instance, a tuple, None -/
theorem isi_self (o : Own K mg x C) {a dx : Addr} {fs : List (Str × V)} {Q : VK} (h : H a = some (.ins C dx fs)) (q : Q (.bl true) H) : rIsi K [.ref a, .ref C] H Q :=
  ⟨_, _, _, _, true, rfl, .own _, o.ty h, o.kit_self, q⟩
theorem isi_tup_own (o : Own K mg x C) {a : Addr} {xs : List V} {Q : VK} (h : H a = some (.tup xs)) (q : Q (.bl false) H) : rIsi K [.ref a, .ref C] H Q :=
  ⟨_, _, _, _, false, rfl, .own _, .base (.tup h), o.kit_ty sub_tup, q⟩
theorem isi_non_own (o : Own K mg x C) {Q : VK} (q : Q (.bl false) H) : rIsi K [.non, .ref C] H Q :=
  ⟨_, _, _, _, false, rfl, .own _, .base .non, o.kit_ty sub_non, q⟩
/-- how an instance with two attributes is made -/
theorem made2 {f g : Str} {C a dx : Addr} {x y : V} {H : Hp} (ha : H a = none) (hd : H dx = none) (n : dx ≠ a) : Same H (upd (upd (upd H dx (.own a)) a (.ins C dx [])) a (.ins C dx [(f, x), (g, y)])) := fun b o e => by
  rw [upd_ne (ne_of_none e ha), upd_ne (ne_of_none e ha), upd_ne (ne_of_none e hd)]
  exact e
theorem upd_at {a : Addr} {u : HO} : upd H a u a = some u := upd_same
end
end Gen
set_option Elab.async false
set_option linter.all false
set_option maxRecDepth 100000
set_option maxHeartbeats 4000000

/-! ### coins that serve, greatest first -/
namespace Gen
open PySem PySem.Spec PyProof.Rows L2
section
variable {X : Cx} {n : Nat} {f C : Addr} {fd : FuncData} {ps : List Str} {sp : Sp}
/-- the same, K named (within a comprehension) -/
theorem op_eqK {K : PySem.W.Frag} (hK : X.K = K) (F : FnOk X.prog X.w X.K X.mg X.base CX0 n f fd ps sp) (hb : L2.Binds X.K fd ps []) (hs : PySem.W.findIn X.K (.ref C) "__eq__" = some (some (.ref f))) (hf : PySem.W.isFn X.K (.ref f) = true) (hr : Room n X.A) :
    OpR X (compareOp .Eq) (rOwnEq K C sp false) := hK ▸ op_eqI F hb hs hf hr
theorem op_neK {K : PySem.W.Frag} (hK : X.K = K) (F : FnOk X.prog X.w X.K X.mg X.base CX0 n f fd ps sp) (hb : L2.Binds X.K fd ps []) (hs : PySem.W.findIn X.K (.ref C) "__ne__" = some (some (.builtin "object.__ne__"))) (he : PySem.W.findIn X.K (.ref C) "__eq__" = some (some (.ref f)))
    (hf : PySem.W.isFn X.K (.ref f) = true) (hm : PySem.W.mroIn X.K C (.type "object") = some true) (hr : Room (n + 1) X.A) : OpR X (compareOp .NotEq) (rOwnEq K C sp true) := hK ▸ op_neI F hb hs he hf hm hr
end
def Srv (p : Int) : Int → List Int → Prop
  | _, [] => True
  | r, c :: cs => c ≤ room p r ∧ Srv p (r + c) cs
def insI (c : Int) : List Int → List Int
  | [] => [c]
  | d :: ds => if c ≤ d then c :: d :: ds else d :: insI c ds
theorem insI_perm (c : Int) : ∀ l : List Int, (insI c l).Perm (c :: l)
  | [] => .refl _
  | d :: ds => by
    unfold insI
    split
    · exact .refl _
    · exact ((insI_perm c ds).cons d).trans (List.Perm.swap c d ds)
theorem insI_mem {c x : Int} {l : List Int} (h : x ∈ insI c l) : x = c ∨ x ∈ l := List.mem_cons.mp ((insI_perm c l).subset h)
theorem insI_sorted {c : Int} : ∀ {l : List Int}, l.Pairwise (· ≤ ·) → (insI c l).Pairwise (· ≤ ·)
  | [], _ => List.pairwise_cons.mpr ⟨fun _ h => absurd h List.not_mem_nil, List.Pairwise.nil⟩
  | d :: ds, h => by
    obtain ⟨h1, h2⟩ := List.pairwise_cons.mp h
    unfold insI
    split
    · rename_i e
      refine List.pairwise_cons.mpr ⟨fun x hx => ?_, h⟩
      rcases List.mem_cons.mp hx with rfl | hx
      · exact e
      · exact Int.le_trans e (h1 x hx)
    · rename_i e
      refine List.pairwise_cons.mpr ⟨fun x hx => ?_, insI_sorted h2⟩
      rcases insI_mem hx with rfl | hx
      · omega
      · exact h1 x hx
theorem room_mono {p r s : Int} (hp : 2 ≤ p) (h : r ≤ s) : room p r ≤ room p s := by
  unfold room
  have := Int.ediv_le_ediv (c := p - 1) (by omega) h
  omega
theorem Srv.mono {p : Int} (hp : 2 ≤ p) : ∀ {l : List Int} {r s : Int}, r ≤ s → Srv p r l → Srv p s l
  | [], _, _, _, _ => True.intro
  | c :: cs, r, s, h, ⟨h1, h2⟩ => ⟨Int.le_trans h1 (room_mono hp h), Srv.mono hp (by omega) h2⟩
theorem Srv.ins {p c : Int} (hp : 2 ≤ p) (c0 : 0 ≤ c) : ∀ {l : List Int} {r : Int}, Srv p r l → c ≤ room p (r + l.sum) → Srv p r (insI c l)
  | [], r, _, h => by
    rw [List.sum_nil, Int.add_zero] at h
    exact ⟨h, True.intro⟩
  | d :: ds, r, ⟨h1, h2⟩, h => by
    unfold insI
    split
    · rename_i e
      refine ⟨by omega, Int.le_trans h1 (room_mono hp (by omega)), ?_⟩
      exact Srv.mono hp (by omega) h2
    · rw [List.sum_cons, ← Int.add_assoc] at h
      exact ⟨h1, Srv.ins hp c0 h2 h⟩
theorem room_pos {p r : Int} (hp : 2 ≤ p) (r0 : 0 ≤ r) : 1 ≤ room p r := by
  unfold room
  have := Int.ediv_nonneg r0 (show 0 ≤ p - 1 by omega)
  omega
theorem grow_front {p : Int} : ∀ (k : Nat) (a : Int), grow p (k + 1) a = grow p k (a + room p a)
  | 0, _ => rfl
  | k + 1, a => by
    show grow p (k + 1) a + room p (grow p (k + 1) a) = grow p k (a + room p a) + room p (grow p k (a + room p a))
    rw [grow_front k a]
theorem grow_add {p : Int} (hp : 2 ≤ p) : ∀ (k : Nat) {a : Int}, 0 ≤ a → a + k ≤ grow p k a
  | 0, a, _ => by show a + (0 : Nat) ≤ a; omega
  | k + 1, a, h => by
    have h1 := grow_add hp k h
    have h2 := room_pos hp (show 0 ≤ grow p k a by omega)
    show a + ((k + 1 : Nat) : Int) ≤ grow p k a + room p (grow p k a)
    omega
/-- a step of the greatest coins first -/
theorem coin_step {p t l c : Int} {k : Nat} (hp : 2 ≤ p) (h1 : (k : Int) + 1 ≤ l) (h2 : l ≤ t) (h3 : t ≤ grow p (k + 1) (t - l)) (hc : c = if l - k < room p (t - l) then l - k else room p (t - l)) :
    1 ≤ c ∧ c ≤ room p (t - l) ∧ (k : Int) ≤ l - c ∧ t ≤ grow p k (t - (l - c)) := by
  have r0 := room_pos hp (show 0 ≤ t - l by omega)
  by_cases e : l - k < room p (t - l)
  · rw [if_pos e] at hc
    have g := grow_add hp k (show 0 ≤ t - (l - c) by omega)
    refine ⟨by omega, by omega, by omega, by omega⟩
  · rw [if_neg e] at hc
    rw [grow_front] at h3
    have e2 : t - (l - c) = t - l + room p (t - l) := by omega
    rw [e2]
    exact ⟨by omega, by omega, by omega, h3⟩
theorem srv_up {p c r : Int} (p0 : 2 ≤ p) (p1 : p ≤ 5) (h : c ≤ room p r) : ¬ (r + c + p - 1) / p < c := by
  unfold room at h
  have e : p = 2 ∨ p = 3 ∨ p = 4 ∨ p = 5 := by omega
  rcases e with rfl | rfl | rfl | rfl <;> omega
theorem sum_perm {a b : List Int} (h : a.Perm b) : a.sum = b.sum := by
  induction h with
  | nil => rfl
  | cons x _ ih => rw [List.sum_cons, List.sum_cons, ih]
  | swap x y l => simp only [List.sum_cons]; omega
  | trans _ _ h1 h2 => exact h1.trans h2
/-- coins so far, in some order: sorted they serve -/
structure Good (p t l : Int) (ns : List Int) : Prop where
  pos : ∀ n, n ∈ ns → 1 ≤ n
  sum : ns.sum = t - l
  srt : ∃ ms : List Int, ms.Perm ns ∧ ms.Pairwise (· ≤ ·) ∧ Srv p 0 ms
theorem Good.nil {p t : Int} : Good p t t [] := ⟨fun _ h => absurd h List.not_mem_nil, by rw [List.sum_nil]; omega, [], .refl _, List.Pairwise.nil, True.intro⟩
theorem Good.put {p t l c : Int} {ns : List Int} (hp : 2 ≤ p) (g : Good p t l ns) (c1 : 1 ≤ c) (c2 : c ≤ room p (t - l)) : Good p t (l - c) (ns ++ [c]) := by
  obtain ⟨ms, h1, h2, h3⟩ := g.srt
  have es : ms.sum = t - l := by rw [sum_perm h1]; exact g.sum
  refine ⟨fun n hn => ?_, by rw [List.sum_append, g.sum]; simp; omega, insI c ms, (insI_perm c ms).trans ((h1.cons c).trans (List.perm_append_comm (l₁ := [c]))), insI_sorted h2, Srv.ins hp (by omega) h3 (by rw [es]; rwa [Int.zero_add])⟩
  rcases List.mem_append.mp hn with h | h
  · exact g.pos n h
  · rw [List.mem_singleton.mp h]; exact c1
theorem Good.out {p t l : Int} {ns ms : List Int} (g : Good p t l ns) (h1 : ms.Perm ns) (h2 : ms.Pairwise (· ≤ ·)) : Srv p 0 ms := by
  obtain ⟨ks, k1, k2, k3⟩ := g.srt
  rw [PySem.W.os_sorted_one (h1.trans k1.symm) h2 k2]
  exact k3
theorem dp_ints {K : PySem.W.Frag} {H : Hp} : ∀ ns : List Int, DpAll K H (ns.map V.int) (ns.map PyData.int)
  | [] => .nil
  | n :: ns => .cons (.int n) (dp_ints ns)
theorem eqv_ints : ∀ ns : List Int, PyData.eqvAll (ns.map PyData.int) (ns.map PyData.int) = true
  | [] => by simp [PyData.eqvAll]
  | n :: ns => by simp [PyData.eqvAll, PyData.eqv, eqv_ints ns]
theorem eq_ints {K : PySem.W.Frag} {H : Hp} {a b : Addr} {ns : List Int} {Q : VK} (ha : SqL K H a (ns.map V.int)) (hb : SqL K H b (ns.map V.int)) (q : Q (.bl true) H) : rEqD K (.ref a) (.ref b) H Q := by
  refine ⟨_, _, .lst ha (dp_ints ns), .lst hb (dp_ints ns), PySem.W.shaped_ints ns, PySem.W.shaped_ints ns, ?_⟩
  rw [show PyData.eqv (.list (ns.map PyData.int)) (.list (ns.map PyData.int)) = true by simp only [PyData.eqv]; exact eqv_ints ns]
  exact q
theorem ne_ints {K : PySem.W.Frag} {H : Hp} {a b : Addr} {ns : List Int} {Q : VK} (ha : SqL K H a (ns.map V.int)) (hb : SqL K H b (ns.map V.int)) (q : Q (.bl false) H) : rNeD K (.ref a) (.ref b) H Q := by
  refine ⟨_, _, .lst ha (dp_ints ns), .lst hb (dp_ints ns), PySem.W.shaped_ints ns, PySem.W.shaped_ints ns, ?_⟩
  rw [show PyData.eqv (.list (ns.map PyData.int)) (.list (ns.map PyData.int)) = true by simp only [PyData.eqv]; exact eqv_ints ns]
  exact q
theorem Srv.take {p : Int} : ∀ {ns : List Int} {r c : Int} {i : Nat}, Srv p r ns → ns[i]? = some c → c ≤ room p (r + (ns.take i).sum)
  | d :: ds, r, c, 0, h, e => by
    cases e
    rw [List.take_zero, List.sum_nil, Int.add_zero]
    exact h.1
  | d :: ds, r, c, i + 1, h, e => by
    rw [List.take_succ_cons, List.sum_cons, ← Int.add_assoc]
    exact Srv.take h.2 e
end Gen
set_option Elab.async false
set_option linter.all false
set_option maxRecDepth 100000
set_option maxHeartbeats 4000000
/-! ## enumerate over a list or a tuple -/
namespace Gen
open PySem PySem.Spec PyProof.Rows L2
/-- the object that enumerate(v) is, over the iterator that stands at i -/
abbrev enO (i : Addr) : Obj := { cls := .type "enumerate", data := .fields #[.none, .bool false, .ref i, rawInt 0, .none, .none] }
theorem meets_enum_newB {t : Addr} {o : Obj} {HH : Heap → Prop} (B : Begins (.ref t) o HH) :
    Meets (Builtin.«enumerate.__new__» ⟨[.type "enumerate", .ref t], []⟩) (fun _ R s => (HH s.heap ∧ ∃ u, s.heap.get? t = some u) ∧ R (.ok (.ret (.ref (s.heap.push o).objs.size))) { s with heap := (s.heap.push o).push (enO s.heap.objs.size) }) :=
  .of_wp fun prog w A R s h => by
    obtain ⟨hp, g, d, tk, os⟩ := s
    obtain ⟨⟨hh, u, hu⟩, h⟩ := h
    have kn := sub_enumerate
    have go : ∀ {A' : Around} {E' : Value → Shared → Prop} {Q' : Value → Shared → Prop}, Q' (.ref hp.objs.size) ⟨hp.push o, g, d, tk, os⟩ → wpAny (model prog w) A' (pyIter (.ref t)) Q' E' ⟨hp, g, d, tk, os⟩ := fun q => B.iter prog w _ _ ⟨hp, g, d, tk, os⟩ _ hh q
    wp_walk using AutoSeq1.wpAny_loadPart' hu
    refine wpAny_stack_any fun z => wpAny_pure ?_
    split
    · rename_i c _ _ _ _ _
      cases (c == Value.type "enumerate") <;>
      · wp_walk using AutoSeq1.wpAny_loadPart' hu, go
        exact ⟨_, rfl, h⟩
    · wp_walk using AutoSeq1.wpAny_loadPart' hu, go
      exact ⟨_, rfl, h⟩
section
variable {prog : Program} {w : World} {A : Around} {E : Value → Shared → Prop} {s : Shared}
theorem call_enum_tup {t : Addr} {items : Array Value} {Q : Value → Shared → Prop} (ht : s.heap.IsTuple t items)
    (h : ∀ h', IsEnum h' (s.heap.objs.size + 1) s.heap.objs.size 0 .none → h'.IsTupleIter s.heap.objs.size t 0 → (∀ b o, s.heap.get? b = some o → h'.get? b = some o) → Q (.ref (s.heap.objs.size + 1)) { s with heap := h' }) :
    wpAny (model prog w) A (call (.type "enumerate") [.ref t]) Q E s := by
  have ex : ∃ u, s.heap.get? t = some u := by obtain ⟨u, hu, _⟩ := ht; exact ⟨u, hu⟩
  refine callType_new F.called_enumerate (by decide) (F.typeCall_enumerate_1 _) (F.newCall_enumerate_1 _) (fun obj => F.args_object_init_2 obj _) F.entry_enumerate_new (meets_enum_newB (begins_tuple t items)) ⟨⟨ht, ex⟩, ?_⟩
  have z : ∀ ob : Obj, (s.heap.push ob).objs.size = s.heap.objs.size + 1 := fun ob => Heap.size_push ..
  show _ ∧ _
  rw [z]
  have he := Heap.get?_push_size (s.heap.push { cls := .type "tuple_iterator", data := .fields #[.ref t, .int 0 0] }) (o := enO s.heap.objs.size) rfl
  rw [z] at he
  exact ⟨⟨_, he, rfl⟩, h _ he ⟨_, Heap.get?_push_of_some _ (Heap.get?_push_size _ rfl), rfl, rfl⟩ fun b o x => Heap.get?_push_of_some _ (Heap.get?_push_of_some _ x)⟩
end
/-- the tuple at a as it stands, each of its things in a new pair with its place -/
def Itp (K : PySem.W.Frag) (a : Addr) : It where
  go i H := ∃ (xs : List V) (x : V), SqT K H a xs ∧ xs[i]? = some x
  yld i H v H' := ∃ T x, v = .ref T ∧ H T = none ∧ H' = upd H T (.tup [.int (i : Nat), x]) ∧ ∀ xs, SqT K H a xs → xs[i]? = some x
  stop i H := ∃ xs : List V, SqT K H a xs ∧ xs.length ≤ i
theorem draws_end {P : Program} {w : World} {A : Around} (hh : A.handled = none) (it t : Addr) (items : Array Value) (i : Nat) (hi : items.size ≤ i) :
    Draws P w A it [it, t] i (fun _ _ => True) (fun j h => j = i ∧ h.IsTupleIter it t j ∧ h.IsTuple t items) where
  live := fun _ _ st => let ⟨ob, hob, _⟩ := st.2.1; ⟨ob, hob⟩
  frame := fun _ _ _ st hk => ⟨st.1, st.2.1.at fun ob q => hk it (by simp) ob q, st.2.2.at fun ob q => hk t (by simp) ob q⟩
  item := fun j s Q E hj st _ => absurd st.1 (Nat.ne_of_lt hj)
  done := fun s Q E st hE => wpAny_nextOf_tuple_end hh st.2.1 st.2.2 (by simp [hi]) hE
theorem turn_enumT {P : Program} {w : World} {K : PySem.W.Frag} {xs0 : List Expr} {k0 : Nat} {ps0 : Pos} (a e it : Addr) :
    Turn P w K (.Tuple xs0 k0 ps0) (Itp K a) [e, it] e (fun i h => (∃ last, IsEnum h e it ((i : Nat) : Int) last) ∧ h.IsTupleIter it a i ∧ e ≠ it) where
  mem := List.mem_cons_self
  obj := by
    rintro i h ⟨⟨last, q1⟩, ⟨ob, q2, _, q3⟩, _⟩ b hb
    rcases List.mem_cons.mp hb with rfl | z
    · exact ⟨_, q1, fun v n => nomatch n⟩
    · rw [List.mem_singleton] at z
      exact ⟨ob, z ▸ q2, fun v n => by rw [q3] at n; cases n⟩
  keep := by
    rintro i h h' ⟨⟨last, q1⟩, q2, q3⟩ k
    exact ⟨⟨last, k e (by simp) _ q1⟩, q2.at fun ob q => k it (by simp) ob q, q3⟩
  item := by
    intro X hP hw hK hc i pins s z H E I hf st hg
    subst hP hw hK
    obtain ⟨⟨last, q1⟩, q2, ne⟩ := st
    obtain ⟨xs, x, hq, hx⟩ := hg
    obtain ⟨its, rv, pt, _⟩ := I.tuple hq
    obtain ⟨u, hu, ru⟩ := rv.get hx
    have lte : e < s.heap.objs.size := Heap.lt_size q1
    have lti : it < s.heap.objs.size := by obtain ⟨_, q, _⟩ := q2; exact Heap.lt_size q
    have ht : s.heap.IsTuple a its.toArray := pt
    have nai : a ≠ it := by
      obtain ⟨o1, g1, g2, _⟩ := ht
      obtain ⟨o2, g3, g4, _⟩ := q2
      intro y
      rw [y, g3] at g1
      cases g1
      rw [g4] at g2
      exact absurd g2 (by decide)
    have nea : e ≠ a := by
      obtain ⟨o1, g1, g2, _⟩ := ht
      intro y
      rw [← y, q1] at g1
      cases g1
      exact absurd (show Value.type "enumerate" = Value.type "tuple" from g2) (by decide)
    have hlt : i < its.toArray.size := by
      have l1 := (List.getElem?_eq_some_iff.mp hu).1
      simpa using l1
    refine wpAny_pyNext_enum_itemD (Draws.tuple (A := X.A.in1) (I.ok.hd hc) it a nai its.toArray) q1 ⟨q2, ht⟩ hlt ne (by simp [ne, nea]) fun y h' tk hy ho st' hT _ hk => ?_
    have ey : y = u := by
      have hy' : its.toArray[i]? = some y := hy
      rw [List.getElem?_toArray, hu] at hy'
      exact (Option.some.inj hy').symm
    subst ey
    refine ⟨_, rfl, wpAny_letOwnedTupleGo_enum (s := { s with heap := h', toks := tk + 1 }) ho fun h2 he2 sb => ?_⟩
    have hT2 : h2.get? s.heap.objs.size = some { cls := .type "tuple", data := .seq #[.int i tk, y] } := (sb.2 _ (Nat.ne_of_gt lte)).trans hT
    have new : ObjOk X.prog X.w (upd H s.heap.objs.size (.tup [.int (i : Nat), x])) h2 s.heap.objs.size (.tup [.int (i : Nat), x]) :=
      ⟨(show 2 ≤ sizeLine by decide), [.int i tk, y], .cons ⟨_, rfl⟩ (.cons ru .nil), ⟨_, hT2, rfl, _, rfl⟩⟩
    have old : ∀ b ob, b ∉ [e, it] → s.heap.get? b = some ob → h2.get? b = some ob := fun b ob hb q =>
      (sb.2 b fun n => hb (by simp [n])).trans (hk b ob (fun n => hb (by simp [n])) (fun n => hb (by simp [n])) q)
    have J := I.turnedNew (t' := tk + 1) (ch := [e, it]) old hf (Nat.le_refl _) new
    refine ⟨.ref s.heap.objs.size, _, J, rfl, ⟨_, x, rfl, I.hok.fresh (Nat.le_refl _), rfl, fun ys hy2 => by rw [I.tuple_inj hy2 hq]; exact hx⟩, ⟨⟨y, ?_⟩, st'.1.at fun ob q => (sb.2 it ne.symm).trans q, ne⟩, fun b hb => ?_⟩
    · have e1 : ((i + 1 : Nat) : Int) = (i : Int) + 1 := by omega
      exact e1 ▸ he2
    · have lb : b < s.heap.objs.size := by
        rcases List.mem_cons.mp hb with n | n
        · exact n ▸ lte
        · rw [List.mem_singleton.mp n]
          exact lti
      rw [upd_ne (Nat.ne_of_lt lb)]
      exact (hf b hb).1
  done := by
    intro X hP hw hK hc i pins s z H E I hf st hg
    subst hP hw hK
    obtain ⟨⟨last, q1⟩, q2, ne⟩ := st
    obtain ⟨xs, hq, hx⟩ := hg
    obtain ⟨its, rv, pt, _⟩ := I.tuple hq
    obtain ⟨f0, f1, f2, f3, f4, f5⟩ := hf it (by simp)
    have ln := rv.length
    exact wpAny_pyNext_enum_endD (draws_end (A := X.A.in1) (I.ok.hd hc) it a its.toArray i (by simp; omega)) q1 ⟨rfl, q2, pt⟩ fun h' eb => ⟨rfl, I.turned (t' := s.toks) (fun b ob hb q => eb b ob hb q) f0 f1 f3 f4 f5⟩
  self := by
    rintro A i s Q E ⟨⟨_, q1⟩, _⟩ h
    exact wpAny_pyIter_enum q1 h
/-- enumerate(v), v a list or a tuple -/
def iEnumE (K : PySem.W.Frag) (ta : TA) : TI := fun z H R => ta z H fun vs H1 => ∃ (a : Addr) (xs : List V), vs = [.ref a] ∧ ((SqL K H1 a xs ∧ R (Ite K a) H1) ∨ (SqT K H1 a xs ∧ R (Itp K a) H1))
theorem pi_enumE {X : Cx} {e : Expr} {ta : TA} {p pos ps0 : Pos} {xs0 : List Expr} {k0 : Nat} (hg : Gl X "enumerate") (hm : X.mg "enumerate" = none) (ha : PA X [e] ta) (hst : starEach [e] X.env = [(false, eval e X.env)] := by rfl) :
    PI X (.Tuple xs0 k0 ps0) (.Call (.Name "enumerate" p) [e] [] pos) (iEnumE X.K ta) := by
  refine ⟨fun pins s z H R I h => ?_⟩
  refine Call_ (ld_blt I hg hm boot_enumerate (PyProof.Rows.callWith_type1 (thn (ha.run pos pins s z H _ I h) fun us s1 ⟨vs, H1, I1, r1, q1⟩ => ?_) hst rfl))
  obtain ⟨a, xs, rfl, hq⟩ := q1
  rw [Vals.ref1 r1]
  have far : ∀ b, b ∈ [s1.heap.objs.size + 1, s1.heap.objs.size] → s1.heap.objs.size ≤ b := by
    intro b hb
    rcases List.mem_cons.mp hb with n | n
    · omega
    · rw [List.mem_singleton] at n
      omega
  rcases hq with ⟨hq, q⟩ | ⟨hq, q⟩
  · obtain ⟨its, rv, pl, _⟩ := I1.list hq
    refine call_enumerate_list pl.isList fun h' g1 g2 _ hk => wpAny_pyIter_enum g1 ?_
    have J := I1.kept (t' := s1.toks) hk
    exact ⟨s1.heap.objs.size + 1, [s1.heap.objs.size + 1, s1.heap.objs.size], _, _, H1, rfl, J, turn_enum a (s1.heap.objs.size + 1) s1.heap.objs.size, ⟨⟨.none, g1⟩, g2, Nat.succ_ne_self _⟩, fun b hb => I1.fpOk (far b hb) (I1.hok.fresh (far b hb)), q⟩
  · obtain ⟨its, rv, pt, _⟩ := I1.tuple hq
    refine call_enum_tup (show s1.heap.IsTuple a its.toArray from pt) fun h' g1 g2 hk => wpAny_pyIter_enum g1 ?_
    have J := I1.kept (t' := s1.toks) hk
    exact ⟨s1.heap.objs.size + 1, [s1.heap.objs.size + 1, s1.heap.objs.size], _, _, H1, rfl, J, turn_enumT a (s1.heap.objs.size + 1) s1.heap.objs.size, ⟨⟨.none, g1⟩, g2, Nat.succ_ne_self _⟩, fun b hb => I1.fpOk (far b hb) (I1.hok.fresh (far b hb)), q⟩
/-- for k, x in enumerate(t), t a tuple -/
theorem for_enumT {K : PySem.W.Frag} {a : Addr} {xs : List V} {g : TG} {tb : TS} {D : Ends} {z0 : L2.St} {H : Hp} (Pv : Nat → L2.St → Hp → Prop) (h0 : Pv 0 z0 H) (hl : ∀ i z h, i ≤ xs.length → Pv i z h → SqT K h a xs)
    (hs : ∀ i x T z h, xs[i]? = some x → h T = none → Pv i z h → g (.ref T) z (upd h T (.tup [.int (i : Nat), x])) fun z2 h2 => tb { D with nx := Pv (i + 1), ct := Pv (i + 1), bk := D.nx } z2 h2) (hd : ∀ z h, Pv xs.length z h → D.nx z h) :
    ∃ W : Nat → Nat → L2.St → Hp → Prop, (∃ m, W 0 m z0 H) ∧ ∀ i m z h, W i m z h →
      ((Itp K a).stop i h ∧ D.nx z h) ∨ ((Itp K a).go i h ∧ ∃ N : L2.St → Hp → Prop, (∀ z' h', N z' h' → ∃ m', m' < m ∧ W (i + 1) m' z' h') ∧ ∀ x h', (Itp K a).yld i h x h' → g x z h' fun z2 h2 => tb { D with nx := N, ct := N, bk := D.nx } z2 h2) := by
  refine ⟨fun i m z h => m = xs.length - i ∧ i ≤ xs.length ∧ Pv i z h, ⟨xs.length, by simp, Nat.zero_le _, h0⟩, ?_⟩
  rintro i m z h ⟨rfl, hi, p⟩
  have q := hl i z h hi p
  by_cases hlt : i < xs.length
  · refine .inr ⟨⟨xs, xs[i], q, by simp [hlt]⟩, Pv (i + 1), fun z' h' p' => ⟨xs.length - (i + 1), by omega, rfl, hlt, p'⟩, fun v h' y => ?_⟩
    obtain ⟨T, x, rfl, hT, rfl, hx⟩ := y
    exact hs i x T z h (hx xs q) hT p
  · obtain rfl : i = xs.length := by omega
    exact .inl ⟨⟨xs, q, Nat.le_refl _⟩, hd z h p⟩
end Gen
set_option Elab.async false
set_option linter.all false
set_option maxRecDepth 100000
set_option maxHeartbeats 4000000
namespace My
open PySem PySem.Spec PyProof.Rows L2 Gen
/-! ### the text by places -/
def top (i : Nat) : Stmt := PySem.Challenge.pw_anyworths_k22_whole_fewest_coins_that_me.main.body.getD i (.Pass ⟨0, 0, 0, 0⟩)
abbrev s_i_BadPool : Stmt := inClass (top 2) 0
abbrev nm_i_BadPool : List Str := ["self", "place", "what"]
abbrev ps_i_BadPool : List Str := ["self", "place", "what"]
theorem sc_i_BadPool : FnScope nm_i_BadPool ps_i_BadPool (defScope s_i_BadPool) := ⟨rfl, rfl, rfl, by decide +kernel, rfl, by decide +kernel, by decide +kernel⟩
abbrev s_is_number : Stmt := top 8
abbrev nm_is_number : List Str := ["thing"]
abbrev ps_is_number : List Str := ["thing"]
theorem sc_is_number : FnScope nm_is_number ps_is_number (defScope s_is_number) := ⟨rfl, rfl, rfl, by decide +kernel, rfl, by decide +kernel, by decide +kernel⟩
abbrev s_is_whole : Stmt := top 9
abbrev nm_is_whole : List Str := ["thing", "low", "high"]
abbrev ps_is_whole : List Str := ["thing", "low", "high"]
theorem sc_is_whole : FnScope nm_is_whole ps_is_whole (defScope s_is_whole) := ⟨rfl, rfl, rfl, by decide +kernel, rfl, by decide +kernel, by decide +kernel⟩
abbrev s_is_row : Stmt := top 10
abbrev nm_is_row : List Str := ["thing", "least", "most"]
abbrev ps_is_row : List Str := ["thing", "least", "most"]
theorem sc_is_row : FnScope nm_is_row ps_is_row (defScope s_is_row) := ⟨rfl, rfl, rfl, by decide +kernel, rfl, by decide +kernel, by decide +kernel⟩
abbrev s_check_pool : Stmt := top 11
abbrev nm_check_pool : List Str := ["coins", "place", "coin"]
abbrev ps_check_pool : List Str := ["coins"]
theorem sc_check_pool : FnScope nm_check_pool ps_check_pool (defScope s_check_pool) := ⟨rfl, rfl, rfl, by decide +kernel, rfl, by decide +kernel, by decide +kernel⟩
abbrev s_check_people : Stmt := top 12
abbrev nm_check_people : List Str := ["people", "low"]
abbrev ps_check_people : List Str := ["people", "low"]
theorem sc_check_people : FnScope nm_check_people ps_check_people (defScope s_check_people) := ⟨rfl, rfl, rfl, by decide +kernel, rfl, by decide +kernel, by decide +kernel⟩
abbrev s_room_at : Stmt := top 15
abbrev nm_room_at : List Str := ["total", "people"]
abbrev ps_room_at : List Str := ["total", "people"]
theorem sc_room_at : FnScope nm_room_at ps_room_at (defScope s_room_at) := ⟨rfl, rfl, rfl, by decide +kernel, rfl, by decide +kernel, by decide +kernel⟩
abbrev s_mending_coins : Stmt := top 17
abbrev nm_mending_coins : List Str := ["pool", "people", "coins", "put", "ahead", "coin"]
abbrev ps_mending_coins : List Str := ["pool", "people"]
theorem sc_mending_coins : FnScope nm_mending_coins ps_mending_coins (defScope s_mending_coins) := ⟨rfl, rfl, rfl, by decide +kernel, rfl, by decide +kernel, by decide +kernel⟩
abbrev s_l_mix : Stmt := top 19
abbrev nm_l_mix : List Str := ["_law_number", "_law_turn", "_law_once", "_law_twice"]
abbrev ps_l_mix : List Str := ["_law_number", "_law_turn"]
theorem sc_l_mix : FnScope nm_l_mix ps_l_mix (defScope s_l_mix) := ⟨rfl, rfl, rfl, by decide +kernel, rfl, by decide +kernel, by decide +kernel⟩
abbrev s_l_hand : Stmt := top 20
abbrev nm_l_hand : List Str := ["_law_script", "_law_total", "_law_k", "_law_cell"]
abbrev ps_l_hand : List Str := ["_law_script"]
theorem sc_l_hand : FnScope nm_l_hand ps_l_hand (defScope s_l_hand) := ⟨rfl, rfl, rfl, by decide +kernel, rfl, by decide +kernel, by decide +kernel⟩
abbrev s_l_draw : Stmt := top 21
abbrev nm_l_draw : List Str := ["_law_hand_here", "_law_many", "_law_cell", "_law_rest"]
abbrev ps_l_draw : List Str := ["_law_hand_here", "_law_many"]
theorem sc_l_draw : FnScope nm_l_draw ps_l_draw (defScope s_l_draw) := ⟨rfl, rfl, rfl, by decide +kernel, rfl, by decide +kernel, by decide +kernel⟩
abbrev s_l_pick : Stmt := top 22
abbrev nm_l_pick : List Str := ["_law_hand_here", "_law_things"]
abbrev ps_l_pick : List Str := ["_law_hand_here", "_law_things"]
theorem sc_l_pick : FnScope nm_l_pick ps_l_pick (defScope s_l_pick) := ⟨rfl, rfl, rfl, by decide +kernel, rfl, by decide +kernel, by decide +kernel⟩
abbrev s_l_is_whole : Stmt := top 23
abbrev nm_l_is_whole : List Str := ["_law_thing"]
abbrev ps_l_is_whole : List Str := ["_law_thing"]
theorem sc_l_is_whole : FnScope nm_l_is_whole ps_l_is_whole (defScope s_l_is_whole) := ⟨rfl, rfl, rfl, by decide +kernel, rfl, by decide +kernel, by decide +kernel⟩
abbrev s_l_is_coins : Stmt := top 24
abbrev nm_l_is_coins : List Str := ["_law_thing", "_law_coin"]
abbrev ps_l_is_coins : List Str := ["_law_thing"]
theorem sc_l_is_coins : FnScope nm_l_is_coins ps_l_is_coins (defScope s_l_is_coins) := ⟨rfl, rfl, rfl, by decide +kernel, rfl, by decide +kernel, by decide +kernel⟩
abbrev s_l_up : Stmt := top 25
abbrev nm_l_up : List Str := ["_law_total", "_law_people"]
abbrev ps_l_up : List Str := ["_law_total", "_law_people"]
theorem sc_l_up : FnScope nm_l_up ps_l_up (defScope s_l_up) := ⟨rfl, rfl, rfl, by decide +kernel, rfl, by decide +kernel, by decide +kernel⟩
abbrev s_l_serves : Stmt := top 26
abbrev nm_l_serves : List Str := ["_law_coins", "_law_people", "_law_reached", "_law_coin"]
abbrev ps_l_serves : List Str := ["_law_coins", "_law_people"]
theorem sc_l_serves : FnScope nm_l_serves ps_l_serves (defScope s_l_serves) := ⟨rfl, rfl, rfl, by decide +kernel, rfl, by decide +kernel, by decide +kernel⟩
abbrev s_l_next : Stmt := top 27
abbrev nm_l_next : List Str := ["_law_total", "_law_people"]
abbrev ps_l_next : List Str := ["_law_total", "_law_people"]
theorem sc_l_next : FnScope nm_l_next ps_l_next (defScope s_l_next) := ⟨rfl, rfl, rfl, by decide +kernel, rfl, by decide +kernel, by decide +kernel⟩
abbrev s_l_odd_people : Stmt := top 28
abbrev nm_l_odd_people : List Str := ["_law_hand_here"]
abbrev ps_l_odd_people : List Str := ["_law_hand_here"]
theorem sc_l_odd_people : FnScope nm_l_odd_people ps_l_odd_people (defScope s_l_odd_people) := ⟨rfl, rfl, rfl, by decide +kernel, rfl, by decide +kernel, by decide +kernel⟩
abbrev s_l_pool : Stmt := top 29
abbrev nm_l_pool : List Str := ["_law_hand_here", "_law_people", "_law_most", "_law_many", "_law_turn", "_law_coins", "_law_k", "_law_coin", "_law_place", "_law_times"]
abbrev ps_l_pool : List Str := ["_law_hand_here", "_law_people", "_law_most"]
theorem sc_l_pool : FnScope nm_l_pool ps_l_pool (defScope s_l_pool) := ⟨rfl, rfl, rfl, by decide +kernel, rfl, by decide +kernel, by decide +kernel⟩
abbrev s_l_robbed : Stmt := top 30
abbrev nm_l_robbed : List Str := ["_law_hand_here", "_law_pool_here", "_law_place"]
abbrev ps_l_robbed : List Str := ["_law_hand_here", "_law_pool_here"]
theorem sc_l_robbed : FnScope nm_l_robbed ps_l_robbed (defScope s_l_robbed) := ⟨rfl, rfl, rfl, by decide +kernel, rfl, by decide +kernel, by decide +kernel⟩
abbrev s_l_walk : Stmt := top 31
abbrev nm_l_walk : List Str := ["_law_pool_here", "_law_people", "_law_reached", "_law_lot", "_law_coin", "_law_turn", "_law_put"]
abbrev ps_l_walk : List Str := ["_law_pool_here", "_law_people"]
theorem sc_l_walk : FnScope nm_l_walk ps_l_walk (defScope s_l_walk) := ⟨rfl, rfl, rfl, by decide +kernel, rfl, by decide +kernel, by decide +kernel⟩
abbrev s_l_many_lots : Stmt := top 32
abbrev nm_l_many_lots : List Str := ["_law_count", "_law_high", "_law_many", "_law_k"]
abbrev ps_l_many_lots : List Str := ["_law_count", "_law_high"]
theorem sc_l_many_lots : FnScope nm_l_many_lots ps_l_many_lots (defScope s_l_many_lots) := ⟨rfl, rfl, rfl, by decide +kernel, rfl, by decide +kernel, by decide +kernel⟩
abbrev s_l_lots : Stmt := top 33
abbrev nm_l_lots : List Str := ["_law_count", "_law_high", "_law_rows", "_law_k", "_law_found", "_law_row", "_law_coin"]
abbrev ps_l_lots : List Str := ["_law_count", "_law_high"]
theorem sc_l_lots : FnScope nm_l_lots ps_l_lots (defScope s_l_lots) := ⟨rfl, rfl, rfl, by decide +kernel, rfl, by decide +kernel, by decide +kernel⟩
abbrev s_l_right : Stmt := top 34
abbrev nm_l_right : List Str := ["_law_pool_here", "_law_people", "_law_told_here", "_law_count", "_law_lot"]
abbrev ps_l_right : List Str := ["_law_pool_here", "_law_people"]
theorem sc_l_right : FnScope nm_l_right ps_l_right (defScope s_l_right) := ⟨rfl, rfl, rfl, by decide +kernel, rfl, by decide +kernel, by decide +kernel⟩
abbrev s_l_small : Stmt := top 35
abbrev nm_l_small : List Str := ["_law_hand_here", "_law_many", "_law_high", "_law_k"]
abbrev ps_l_small : List Str := ["_law_hand_here"]
theorem sc_l_small : FnScope nm_l_small ps_l_small (defScope s_l_small) := ⟨rfl, rfl, rfl, by decide +kernel, rfl, by decide +kernel, by decide +kernel⟩
abbrev s_l_far : Stmt := top 36
abbrev nm_l_far : List Str := ["_law_hand_here", "_law_many", "_law_coins", "_law_k", "_law_most"]
abbrev ps_l_far : List Str := ["_law_hand_here"]
theorem sc_l_far : FnScope nm_l_far ps_l_far (defScope s_l_far) := ⟨rfl, rfl, rfl, by decide +kernel, rfl, by decide +kernel, by decide +kernel⟩
abbrev s_l_told : Stmt := top 37
abbrev nm_l_told : List Str := ["_law_pool_here", "_law_people", "e"]
abbrev ps_l_told : List Str := ["_law_pool_here", "_law_people"]
theorem sc_l_told : FnScope nm_l_told ps_l_told (defScope s_l_told) := ⟨rfl, rfl, rfl, by decide +kernel, rfl, by decide +kernel, by decide +kernel⟩
abbrev s_l_refusals_right : Stmt := top 38
abbrev nm_l_refusals_right : List Str := ["_law_hand_here", "_law_pool_here", "_law_people", "_law_odd_people_here", "_law_odd_pool", "_law_place", "_law_due"]
abbrev ps_l_refusals_right : List Str := ["_law_hand_here", "_law_pool_here", "_law_people"]
theorem sc_l_refusals_right : FnScope nm_l_refusals_right ps_l_refusals_right (defScope s_l_refusals_right) := ⟨rfl, rfl, rfl, by decide +kernel, rfl, by decide +kernel, by decide +kernel⟩
abbrev s_law : Stmt := top 39
abbrev nm_law : List Str := ["_law_script", "_law_hand_here", "_law_people", "_law_pools", "_law_pool_here", "_law_kept"]
abbrev ps_law : List Str := ["_law_script"]
theorem sc_law : FnScope nm_law ps_law (defScope s_law) := ⟨rfl, rfl, rfl, by decide +kernel, rfl, by decide +kernel, by decide +kernel⟩
/-! ### what the top has written -/
structure Txt (K : PySem.W.Frag) (mg : Str → Option Value) (cBadPool : Addr) (cBadPeople : Addr) : Prop where
  d_is_number : Df K mg "is_number" s_is_number ps_is_number
  d_is_whole : Df K mg "is_whole" s_is_whole ps_is_whole
  d_is_row : Df K mg "is_row" s_is_row ps_is_row
  d_check_pool : Df K mg "check_pool" s_check_pool ps_check_pool
  d_check_people : DfD K mg "check_people" s_check_people ps_check_people [(V.int 1)]
  d_room_at : Df K mg "room_at" s_room_at ps_room_at
  d_mending_coins : Df K mg "mending_coins" s_mending_coins ps_mending_coins
  d_l_mix : Df K mg "_law_mix" s_l_mix ps_l_mix
  d_l_hand : Df K mg "_law_hand" s_l_hand ps_l_hand
  d_l_draw : Df K mg "_law_draw" s_l_draw ps_l_draw
  d_l_pick : Df K mg "_law_pick" s_l_pick ps_l_pick
  d_l_is_whole : Df K mg "_law_is_whole" s_l_is_whole ps_l_is_whole
  d_l_is_coins : Df K mg "_law_is_coins" s_l_is_coins ps_l_is_coins
  d_l_up : Df K mg "_law_up" s_l_up ps_l_up
  d_l_serves : Df K mg "_law_serves" s_l_serves ps_l_serves
  d_l_next : Df K mg "_law_next" s_l_next ps_l_next
  d_l_odd_people : Df K mg "_law_odd_people" s_l_odd_people ps_l_odd_people
  d_l_pool : Df K mg "_law_pool" s_l_pool ps_l_pool
  d_l_robbed : Df K mg "_law_robbed" s_l_robbed ps_l_robbed
  d_l_walk : Df K mg "_law_walk" s_l_walk ps_l_walk
  d_l_many_lots : Df K mg "_law_many_lots" s_l_many_lots ps_l_many_lots
  d_l_lots : Df K mg "_law_lots" s_l_lots ps_l_lots
  d_l_right : Df K mg "_law_right" s_l_right ps_l_right
  d_l_small : Df K mg "_law_small" s_l_small ps_l_small
  d_l_far : Df K mg "_law_far" s_l_far ps_l_far
  d_l_told : Df K mg "_law_told" s_l_told ps_l_told
  d_l_refusals_right : Df K mg "_law_refusals_right" s_l_refusals_right ps_l_refusals_right
  d_law : Df K mg "law" s_law ps_law
  c_MOST_COINS : ∃ u, mg "MOST_COINS" = some u ∧ RelV (.int 12) u
  c_GREATEST_COIN : ∃ u, mg "GREATEST_COIN" = some u ∧ RelV (.int 1000000000) u
  c_MOST_PEOPLE : ∃ u, mg "MOST_PEOPLE" = some u ∧ RelV (.int 5) u
  c_LEAST_PEOPLE : ∃ u, mg "LEAST_PEOPLE" = some u ∧ RelV (.int 2) u
  n_isinstance : mg "isinstance" = none
  n_int : mg "int" = none
  n_bool : mg "bool" = none
  n_list : mg "list" = none
  n_tuple : mg "tuple" = none
  n_len : mg "len" = none
  n_enumerate : mg "enumerate" = none
  n_sorted : mg "sorted" = none
  n_abs : mg "abs" = none
  n_range : mg "range" = none
  n_sum : mg "sum" = none
  n_max : mg "max" = none
  y_BadPool : XI K mg "BadPool" "BadPool.__init__" s_i_BadPool ps_i_BadPool cBadPool
  x_BadPool : XfC K cBadPool
  f_BadPool_place : PySem.W.findIn K (.ref cBadPool) "place" = some none
  f_BadPool_what : PySem.W.findIn K (.ref cBadPool) "what" = some none
  y_BadPeople : XP K mg "BadPeople" cBadPeople
  m_BadPool_BadPool : PySem.W.exmOne K (.ref cBadPool) (.ref cBadPool) = some true
  m_BadPool_BadPeople : PySem.W.exmOne K (.ref cBadPool) (.ref cBadPeople) = some false
  m_BadPeople_BadPool : PySem.W.exmOne K (.ref cBadPeople) (.ref cBadPool) = some false
  m_BadPeople_BadPeople : PySem.W.exmOne K (.ref cBadPeople) (.ref cBadPeople) = some true
end My
set_option Elab.async false
set_option linter.all false
set_option maxRecDepth 100000
set_option maxHeartbeats 4000000
namespace My
open PySem PySem.Spec PyProof.Rows L2 Gen
section
variable {P : Program} {w : World} {K : PySem.W.Frag} {mg : Str → Option Value} {base : Heap} { cBadPool cBadPeople : Addr}
theorem ok_i_BadPool {f : Addr} {fd : FuncData} (F : Fun K "__init__" "BadPool.__init__" s_i_BadPool f fd) (T : Txt K mg cBadPool cBadPeople) : FnOk P w K mg base CX0 1 f fd ps_i_BadPool (spI2 K cBadPool "place" "what") := by
  refine F.ok (k := 0) sc_i_BadPool (fun vs H Q E h => by obtain ⟨_, _, _, rfl, _⟩ := h; rfl) (fun cdv A outer s H vs Q E hr h => ?_)
  refine ⟨_, (pss_cons (ps_ost (pv 0) (pv 1))
      (pss_one (ps_ost (pv 0) (pv 2)))), ?_⟩
  obtain ⟨a, v, u, rfl, ha, ox, hn, hm, q⟩ := h
  refine ⟨_, rfl, _, rfl, a, _, rfl, ox, hn, .inl ⟨ha, fun dx hx ne => ⟨_, rfl, _, rfl, a, _, rfl, ox, hm, .inr ⟨dx, [("place", v)], upd_same, by rw [upd_ne ne, upd_same], show 1 ≤ 900 by decide, q dx hx ne⟩⟩⟩⟩
def sp_is_number (_ : PySem.W.Frag) : Sp := fun vs H Q _ => ∃ x : V, vs = [x] ∧ Plain H x ∧ Q (.bl (isI x)) H
theorem len_is_number {vs H Q E} (h : sp_is_number K vs H Q E) : vs.length = 1 := by
  obtain ⟨_, rfl, _⟩ := h; rfl
theorem ok_is_number {f : Addr} {fd : FuncData} (F : Fun K "is_number" "is_number" s_is_number f fd) (T : Txt K mg cBadPool cBadPeople) : FnOk P w K mg base CX0 1 f fd ps_is_number (sp_is_number K) := by
  refine F.ok (k := 0) sc_is_number (fun vs H Q E h => len_is_number h) (fun cdv A outer s H vs Q E hr h => ?_)
  refine ⟨_, (pss_one (ps_ret (pe_and (pe_callB call_isi (by rfl) T.n_isinstance (by decide +kernel) (pa_cons (pv 0) (pa_cons (pe_bltn (v := .ty "int") (by rfl) T.n_int (by decide +kernel) rfl) pa_nil))) (pe_one (pe_not (pe_callB call_isi (by rfl) T.n_isinstance (by decide +kernel) (pa_cons (pv 0) (pa_cons (pe_bltn (v := .ty "bool") (by rfl) T.n_bool (by decide +kernel) rfl) pa_nil)))))))), ?_⟩
  obtain ⟨x, rfl, hp, q⟩ := h
  simp only [tSeq, tAsg, tDrop, tRet, tRetN, tIfS, tNext, tTest, tB, tNot, tAnd, tOr, tChain, tIf, tAndV, tOrV, tNotV, tOp, tUn, tCB, tCons, tNil, tVar, tC, tCall, tCallS, gName, rI, rI0, rU, rEq, rNe, tTup, tLst, gSub, rSetL, rIxL, rIxT, L2.start, List.map_cons, List.map_nil, List.length_cons, List.length_nil, Nat.reduceAdd, Nat.reduceSub, List.replicate_succ, List.replicate_zero, List.getElem?_cons_zero, List.getElem?_cons_succ, List.set_cons_zero, List.set_cons_succ, Option.some.injEq, exists_eq_left', exists_eq_left, exists_and_left, V.int.injEq, V.bl.injEq, V.ref.injEq, V.str.injEq, List.cons.injEq, and_true, true_and, List.nil_append, List.cons_append, List.append_nil, reduceCtorEq, false_and, exists_false, or_false, false_or, and_false, Int.reduceNeg, decide_eq_true_eq, Bool.not_eq_true', decide_eq_false_iff_not, and_assoc, tYes, ↓reduceIte, wipe, Bool.false_eq_true, Bool.true_eq_false, cxOf, false_implies, true_implies, implies_true, forall_const]
  refine isi_int hp ?_
  cases x with
  | int i => exact ⟨true, rfl, iteT (isi_bool hp ⟨false, rfl, q⟩)⟩
  | bl i => exact ⟨true, rfl, iteT (isi_bool hp ⟨true, rfl, q⟩)⟩
  | _ => exact ⟨false, rfl, iteF q⟩
def sp_is_whole (_ : PySem.W.Frag) : Sp := fun vs H Q _ => ∃ (x : V) (lo hi : Int), vs = [x, .int lo, .int hi] ∧ Plain H x ∧ Q (.bl (whole x lo hi)) H
theorem len_is_whole {vs H Q E} (h : sp_is_whole K vs H Q E) : vs.length = 3 := by
  obtain ⟨_, _, _, rfl, _⟩ := h; rfl
theorem ok_is_whole {f : Addr} {fd : FuncData} (F : Fun K "is_whole" "is_whole" s_is_whole f fd) (T : Txt K mg cBadPool cBadPeople) : FnOk P w K mg base CX0 2 f fd ps_is_whole (sp_is_whole K) := by
  obtain ⟨f_is_number, fd_is_number, F_is_number, m_is_number, b_is_number⟩ := T.d_is_number
  have G_is_number : FnOk P w K mg base CX0 1 f_is_number fd_is_number ps_is_number (sp_is_number K) := ok_is_number F_is_number T
  refine F.ok (k := 1) sc_is_whole (fun vs H Q E h => len_is_whole h) (fun cdv A outer s H vs Q E hr h => ?_)
  refine ⟨_, (pss_one (ps_ret (pe_and (pe_call G_is_number (hr.mono (by decide)) (by rfl) m_is_number F_is_number.kp b_is_number .nil pass0 (pa_cons (pv 0) pa_nil)) (pe_one (pe_chain op_le op_le (pv 1) (pv 0) (pv 2)))))), ?_⟩
  obtain ⟨x, lo, hi, rfl, hp, q⟩ := h
  simp only [tSeq, tAsg, tDrop, tRet, tRetN, tIfS, tNext, tTest, tB, tNot, tAnd, tOr, tChain, tIf, tAndV, tOrV, tNotV, tOp, tUn, tCB, tCons, tNil, tVar, tC, tCall, tCallS, gName, rI, rI0, rU, rEq, rNe, tTup, tLst, gSub, rSetL, rIxL, rIxT, L2.start, List.map_cons, List.map_nil, List.length_cons, List.length_nil, Nat.reduceAdd, Nat.reduceSub, List.replicate_succ, List.replicate_zero, List.getElem?_cons_zero, List.getElem?_cons_succ, List.set_cons_zero, List.set_cons_succ, Option.some.injEq, exists_eq_left', exists_eq_left, exists_and_left, V.int.injEq, V.bl.injEq, V.ref.injEq, V.str.injEq, List.cons.injEq, and_true, true_and, List.nil_append, List.cons_append, List.append_nil, reduceCtorEq, false_and, exists_false, or_false, false_or, and_false, Int.reduceNeg, decide_eq_true_eq, Bool.not_eq_true', decide_eq_false_iff_not, and_assoc, tYes, ↓reduceIte, wipe, Bool.false_eq_true, Bool.true_eq_false, cxOf, false_implies, true_implies, implies_true, forall_const, sp_is_number]
  refine ⟨hp, ?_⟩
  cases x with
  | int i =>
    refine iteT ?_
    simp only [tSeq, tAsg, tDrop, tRet, tRetN, tIfS, tNext, tTest, tB, tNot, tAnd, tOr, tChain, tIf, tAndV, tOrV, tNotV, tOp, tUn, tCB, tCons, tNil, tVar, tC, tCall, tCallS, gName, rI, rI0, rU, rEq, rNe, tTup, tLst, gSub, rSetL, rIxL, rIxT, L2.start, List.map_cons, List.map_nil, List.length_cons, List.length_nil, Nat.reduceAdd, Nat.reduceSub, List.replicate_succ, List.replicate_zero, List.getElem?_cons_zero, List.getElem?_cons_succ, List.set_cons_zero, List.set_cons_succ, Option.some.injEq, exists_eq_left', exists_eq_left, exists_and_left, V.int.injEq, V.bl.injEq, V.ref.injEq, V.str.injEq, List.cons.injEq, and_true, true_and, List.nil_append, List.cons_append, List.append_nil, reduceCtorEq, false_and, exists_false, or_false, false_or, and_false, Int.reduceNeg, decide_eq_true_eq, Bool.not_eq_true', decide_eq_false_iff_not, and_assoc, tYes, ↓reduceIte, wipe, Bool.false_eq_true, Bool.true_eq_false, cxOf, false_implies, true_implies, implies_true, forall_const]
    by_cases c : lo ≤ i
    · rw [if_pos c]
      have e : whole (.int i) lo hi = decide (i ≤ hi) := by show (decide (lo ≤ i) && decide (i ≤ hi)) = _; rw [decide_eq_true c, Bool.true_and]
      rw [e] at q
      exact q
    · rw [if_neg c]
      have e : whole (.int i) lo hi = false := by show (decide (lo ≤ i) && decide (i ≤ hi)) = _; rw [decide_eq_false c, Bool.false_and]
      rw [e] at q
      exact q
  | _ => exact iteF q
def sp_check_people (_ : PySem.W.Frag) (cP : Addr) : Sp := fun vs H Q E => ∃ (x : V) (lo : Int), vs = [x, .int lo] ∧ Plain H x ∧ (whole x lo 5 = true → Q x H) ∧ (whole x lo 5 = false → E (.ref cP) none H)
theorem len_check_people {vs H Q E} (h : sp_check_people K cBadPeople vs H Q E) : vs.length = 2 := by
  obtain ⟨_, _, rfl, _⟩ := h; rfl
theorem ok_check_people {f : Addr} {fd : FuncData} (F : FunD K "check_people" "check_people" (defArgs s_check_people) (defBody s_check_people) (defScope s_check_people) [(V.int 1)] [] f fd) (T : Txt K mg cBadPool cBadPeople) : FnOk P w K mg base (L2.CX P w) 3 f fd ps_check_people (sp_check_people K cBadPeople) := by
  obtain ⟨f_is_whole, fd_is_whole, F_is_whole, m_is_whole, b_is_whole⟩ := T.d_is_whole
  have G_is_whole : FnOk P w K mg base CX0 2 f_is_whole fd_is_whole ps_is_whole (sp_is_whole K) := ok_is_whole F_is_whole T
  obtain ⟨u_MOST_PEOPLE, c_MOST_PEOPLE, r_MOST_PEOPLE⟩ := T.c_MOST_PEOPLE
  refine F.ok (k := 2) sc_check_people (fun vs H Q E h => len_check_people h) (fun cdv A outer s H vs Q E hr h => ?_)
  refine ⟨_, (pss_cons (ps_if (pt_not (pt_val (pe_call G_is_whole (hr.mono (by decide)) (by rfl) m_is_whole F_is_whole.kp b_is_whole .nil pass0 (pa_cons (pv 0) (pa_cons (pv 1) (pa_cons (pe_glob rfl c_MOST_PEOPLE r_MOST_PEOPLE) pa_nil)))))) (pss_one (ps_raise rfl (takes_of rfl rfl rfl rfl) (T.y_BadPeople.made (by rfl)))) pss_nil)
      (pss_one (ps_ret (pv 0)))), ?_⟩
  obtain ⟨x, lo, rfl, hp, q1, q2⟩ := h
  simp only [tSeq, tAsg, tDrop, tRet, tRetN, tIfS, tNext, tTest, tB, tNot, tAnd, tOr, tChain, tIf, tAndV, tOrV, tNotV, tOp, tUn, tCB, tCons, tNil, tVar, tC, tCall, tCallS, gName, rI, rI0, rU, rEq, rNe, tTup, tLst, gSub, rSetL, rIxL, rIxT, L2.start, List.map_cons, List.map_nil, List.length_cons, List.length_nil, Nat.reduceAdd, Nat.reduceSub, List.replicate_succ, List.replicate_zero, List.getElem?_cons_zero, List.getElem?_cons_succ, List.set_cons_zero, List.set_cons_succ, Option.some.injEq, exists_eq_left', exists_eq_left, exists_and_left, V.int.injEq, V.bl.injEq, V.ref.injEq, V.str.injEq, List.cons.injEq, and_true, true_and, List.nil_append, List.cons_append, List.append_nil, reduceCtorEq, false_and, exists_false, or_false, false_or, and_false, Int.reduceNeg, decide_eq_true_eq, Bool.not_eq_true', decide_eq_false_iff_not, and_assoc, tYes, ↓reduceIte, wipe, Bool.false_eq_true, Bool.true_eq_false, cxOf, false_implies, true_implies, implies_true, forall_const, sp_is_whole]
  refine ⟨hp, ?_⟩
  split
  · rename_i e; exact q2 e
  · rename_i e; exact q1 (by simpa using e)
def sp_room_at (_ : PySem.W.Frag) : Sp := fun vs H Q _ => ∃ t p : Int, vs = [.int t, .int p] ∧ 2 ≤ p ∧ p ≤ 5 ∧ Q (.int (room p t)) H
theorem len_room_at {vs H Q E} (h : sp_room_at K vs H Q E) : vs.length = 2 := by
  obtain ⟨_, _, rfl, _⟩ := h; rfl
theorem ok_room_at {f : Addr} {fd : FuncData} (F : Fun K "room_at" "room_at" s_room_at f fd) (T : Txt K mg cBadPool cBadPeople) : FnOk P w K mg base CX0 1 f fd ps_room_at (sp_room_at K) := by
  refine F.ok (k := 0) sc_room_at (fun vs H Q E h => len_room_at h) (fun cdv A outer s H vs Q E hr h => ?_)
  refine ⟨_, (pss_one (ps_ret (pe_op op_add (pe_op op_fdivW (pv 0) (pe_op op_sub (pv 1) pe_int)) pe_int))), ?_⟩
  obtain ⟨t, p, rfl, h2, h5, q⟩ := h
  simp only [tSeq, tAsg, tDrop, tRet, tRetN, tIfS, tNext, tTest, tB, tNot, tAnd, tOr, tChain, tIf, tAndV, tOrV, tNotV, tOp, tUn, tCB, tCons, tNil, tVar, tC, tCall, tCallS, gName, rI, rI0, rU, rEq, rNe, tTup, tLst, gSub, rSetL, rIxL, rIxT, L2.start, List.map_cons, List.map_nil, List.length_cons, List.length_nil, Nat.reduceAdd, Nat.reduceSub, List.replicate_succ, List.replicate_zero, List.getElem?_cons_zero, List.getElem?_cons_succ, List.set_cons_zero, List.set_cons_succ, Option.some.injEq, exists_eq_left', exists_eq_left, exists_and_left, V.int.injEq, V.bl.injEq, V.ref.injEq, V.str.injEq, List.cons.injEq, and_true, true_and, List.nil_append, List.cons_append, List.append_nil, reduceCtorEq, false_and, exists_false, or_false, false_or, and_false, Int.reduceNeg, decide_eq_true_eq, Bool.not_eq_true', decide_eq_false_iff_not, and_assoc, tYes, ↓reduceIte, wipe, Bool.false_eq_true, Bool.true_eq_false, cxOf, false_implies, true_implies, implies_true, forall_const]
  exact ⟨cdw (by omega) (by omega), q⟩
/-- a list or a tuple that is tracked -/
def Row (H : Hp) (a : Addr) (xs : List V) : Prop := H a = some (.tup xs) ∨ H a = some (.lst xs)
theorem Row.sq {H : Hp} {a : Addr} {xs : List V} (h : Row H a xs) : SqL K H a xs ∨ SqT K H a xs := h.elim (fun e => .inr (SqT.of e)) fun e => .inl (SqL.of e)
theorem Row.same {H H' : Hp} {a : Addr} {xs : List V} (h : Row H a xs) (s : Same H H') : Row H' a xs := h.elim (fun e => .inl (s _ _ e)) fun e => .inr (s _ _ e)
theorem Row.one {H : Hp} {a : Addr} {xs ys : List V} (h : Row H a xs) (h2 : Row H a ys) : xs = ys := by
  rcases h with h | h <;> rcases h2 with h2 | h2 <;> (rw [h] at h2; cases h2) <;> rfl
theorem isiT_yes {H : Hp} {a p : Addr} {xs : List V} {Q : VK} (h : Row H a xs) (hT : H p = some (.tup [V.ty "list", V.ty "tuple"])) (q : Q (.bl true) H) : rIsiT K [.ref a, .ref p] H Q := by
  rcases h with h | h
  · exact ⟨_, _, _, _, _, true, rfl, hT, .cons (.ty _) (.cons (.ty _) .nil), .base (.tup h), kitAny_cons (b := false) (kit_ty (by decide +kernel)) (fun _ => kitAny_cons (b := true) (kit_ty (by decide +kernel)) (fun z => by cases z) fun _ => rfl) (fun z => by cases z), q⟩
  · exact ⟨_, _, _, _, _, true, rfl, hT, .cons (.ty _) (.cons (.ty _) .nil), .base (.lst h), kitAny_cons (b := true) (kit_ty (by decide +kernel)) (fun z => by cases z) (fun _ => rfl), q⟩
theorem isiT_no {H : Hp} {x : V} {p : Addr} {Q : VK} (hp : Plain H x) (n : ∀ a xs, x = .ref a → ¬ Row H a xs) (hT : H p = some (.tup [V.ty "list", V.ty "tuple"])) (q : Q (.bl false) H) : rIsiT K [x, .ref p] H Q := by
  have mk : ∀ {t : String}, TyX K H x (.type t) → kitB t "list" = some false → kitB t "tuple" = some false → rIsiT K [x, .ref p] H Q := fun ty h1 h2 =>
    ⟨_, _, _, _, _, false, rfl, hT, .cons (.ty _) (.cons (.ty _) .nil), ty, kitAny_cons (b := false) (kit_ty h1) (fun _ => kitAny_cons (b := false) (kit_ty h2) (fun _ => rfl) (fun z => by cases z)) (fun z => by cases z), q⟩
  cases x with
  | non => exact mk (.base .non) (by decide +kernel) (by decide +kernel)
  | bl b => exact mk (.base (.bl b)) (by decide +kernel) (by decide +kernel)
  | int i => exact mk (.base (.int i)) (by decide +kernel) (by decide +kernel)
  | str z => exact mk (.base (.str z)) (by decide +kernel) (by decide +kernel)
  | ref a =>
    rcases hp with ⟨xs, h⟩ | ⟨xs, h⟩ | ⟨xs, h⟩
    · exact absurd (.inl h) (n a xs rfl)
    · exact absurd (.inr h) (n a xs rfl)
    · exact mk (.base (.dK h)) (by decide +kernel) (by decide +kernel)
  | byt _ => exact hp.elim
  | flt _ => exact hp.elim
  | ty _ => exact hp.elim
def sp_is_row (_ : PySem.W.Frag) : Sp := fun vs H Q _ => ∃ (x : V) (lo hi : Int), vs = [x, .int lo, .int hi] ∧ Plain H x ∧
  ((∃ a xs, x = .ref a ∧ Row H a xs ∧ ∀ H', Same H H' → Q (.bl (decide (lo ≤ (xs.length : Int)) && decide ((xs.length : Int) ≤ hi))) H') ∨ ((∀ a xs, x = .ref a → ¬ Row H a xs) ∧ ∀ H', Same H H' → Q (.bl false) H'))
theorem len_is_row {vs H Q E} (h : sp_is_row K vs H Q E) : vs.length = 3 := by
  obtain ⟨_, _, _, rfl, _⟩ := h; rfl
theorem ok_is_row {f : Addr} {fd : FuncData} (F : Fun K "is_row" "is_row" s_is_row f fd) (T : Txt K mg cBadPool cBadPeople) : FnOk P w K mg base CX0 1 f fd ps_is_row (sp_is_row K) := by
  refine F.ok (k := 0) sc_is_row (fun vs H Q E h => len_is_row h) (fun cdv A outer s H vs Q E hr h => ?_)
  refine ⟨_, (pss_one (ps_ret (pe_and (pe_callB call_isiT (by rfl) T.n_isinstance (by decide +kernel) (pa_cons (pv 0) (pa_cons (pe_tup (pa_cons (pe_bltn (v := .ty "list") (by rfl) T.n_list (by decide +kernel) rfl) (pa_cons (pe_bltn (v := .ty "tuple") (by rfl) T.n_tuple (by decide +kernel) rfl) pa_nil))) pa_nil))) (pe_one (pe_chain op_le op_le (pv 1) (pe_callB call_len_seq (by rfl) T.n_len (by decide +kernel) (pa_cons (pv 0) pa_nil)) (pv 2)))))), ?_⟩
  obtain ⟨x, lo, hi, rfl, hp, k⟩ := h
  simp only [tSeq, tAsg, tDrop, tRet, tRetN, tIfS, tNext, tTest, tB, tNot, tAnd, tOr, tChain, tIf, tAndV, tOrV, tNotV, tOp, tUn, tCB, tCons, tNil, tVar, tC, tCall, tCallS, gName, rI, rI0, rU, rEq, rNe, tTup, tLst, gSub, rSetL, rIxL, rIxT, L2.start, List.map_cons, List.map_nil, List.length_cons, List.length_nil, Nat.reduceAdd, Nat.reduceSub, List.replicate_succ, List.replicate_zero, List.getElem?_cons_zero, List.getElem?_cons_succ, List.set_cons_zero, List.set_cons_succ, Option.some.injEq, exists_eq_left', exists_eq_left, exists_and_left, V.int.injEq, V.bl.injEq, V.ref.injEq, V.str.injEq, List.cons.injEq, and_true, true_and, List.nil_append, List.cons_append, List.append_nil, reduceCtorEq, false_and, exists_false, or_false, false_or, and_false, Int.reduceNeg, decide_eq_true_eq, Bool.not_eq_true', decide_eq_false_iff_not, and_assoc, tYes, ↓reduceIte, wipe, Bool.false_eq_true, Bool.true_eq_false, cxOf, false_implies, true_implies, implies_true, forall_const]
  refine ⟨by decide, fun p hq => ?_⟩
  have s := Same.new (o := HO.tup [V.ty "list", V.ty "tuple"]) hq
  have eT : upd H p (HO.tup [V.ty "list", V.ty "tuple"]) p = some (HO.tup [V.ty "list", V.ty "tuple"]) := upd_same
  generalize upd H p (HO.tup [V.ty "list", V.ty "tuple"]) = H1 at s eT ⊢
  rcases k with ⟨a, xs, rfl, hr, k⟩ | ⟨n, k⟩
  · have hr1 := hr.same s
    refine isiT_yes hr1 eT ⟨true, rfl, ?_⟩
    rw [if_pos rfl]
    refine ⟨a, rfl, xs, hr1.sq, ?_⟩
    by_cases c : lo ≤ (xs.length : Int)
    · rw [if_pos c]
      have e := k H1 s
      rw [decide_eq_true c, Bool.true_and] at e
      exact e
    · rw [if_neg c]
      have e := k H1 s
      rw [decide_eq_false c, Bool.false_and] at e
      exact e
  · refine isiT_no (hp.same s) (fun a xs e r => ?_) eT ⟨false, rfl, ?_⟩
    · subst e
      rcases hp with ⟨ys, h⟩ | ⟨ys, h⟩ | ⟨ys, h⟩
      · exact n a ys rfl (.inl h)
      · exact n a ys rfl (.inr h)
      · rcases r with r | r <;> (rw [s _ _ h] at r; cases r)
    · rw [if_neg (fun z => by cases z)]
      exact k H1 s
/-- what is handed in as a pool: plain, and what it holds is plain -/
def Arg (H : Hp) (x : V) : Prop := Plain H x ∧ ∀ a xs, x = .ref a → Row H a xs → ∀ y, y ∈ xs → Plain H y
/-- whether it is a row of at most twelve things -/
def FewRow (H : Hp) (x : V) : Prop := ∃ a xs, x = .ref a ∧ Row H a xs ∧ xs.length ≤ 12
def bad2 (i : Int) (w : Str) : HO := .xd [("what", .str w), ("place", .int i)]
theorem ints_of {m : Int} : ∀ {xs : List V}, (∀ z, z ∈ xs → whole z 1 m = true) → ∃ ns : List Int, xs = ns.map V.int ∧ ∀ n, n ∈ ns → 1 ≤ n ∧ n ≤ m
  | [], _ => ⟨[], rfl, fun _ h => absurd h List.not_mem_nil⟩
  | x :: xs, h => by
    obtain ⟨i, rfl, i0, i1⟩ := whole_of (h x List.mem_cons_self)
    obtain ⟨ns, rfl, b⟩ := ints_of fun z hz => h z (List.mem_cons_of_mem _ hz)
    refine ⟨i :: ns, rfl, fun n hn => ?_⟩
    rcases List.mem_cons.mp hn with rfl | hn
    · exact ⟨i0, i1⟩
    · exact b n hn
def sp_check_pool (_ : PySem.W.Frag) (cB : Addr) : Sp := fun vs H Q E => ∃ x : V, vs = [x] ∧ Arg H x ∧
  (¬ FewRow H x → ∀ H' d, Same H H' → H' d = none → E (.ref cB) (some d) (upd H' d (bad2 0 "many"))) ∧
  (∀ a xs (i : Nat) y, x = .ref a → Row H a xs → xs.length ≤ 12 → (∀ j z, j < i → xs[j]? = some z → whole z 1 1000000000 = true) → xs[i]? = some y → whole y 1 1000000000 = false → ∀ H' d, Same H H' → H' d = none → E (.ref cB) (some d) (upd H' d (bad2 i "coin"))) ∧
  ∀ (a : Addr) (ns : List Int), x = .ref a → Row H a (ns.map V.int) → ns.length ≤ 12 → (∀ n, n ∈ ns → 1 ≤ n ∧ n ≤ 1000000000) → ∀ (H' : Hp) (b : Addr) (ms : List Int), Same H H' → H' b = some (.tup (ms.map V.int)) → ms.Perm ns → ms.Pairwise (· ≤ ·) → Q (.ref b) H'
theorem len_check_pool {vs H Q E} (h : sp_check_pool K cBadPool vs H Q E) : vs.length = 1 := by
  obtain ⟨_, rfl, _⟩ := h; rfl
theorem ok_check_pool {f : Addr} {fd : FuncData} (F : Fun K "check_pool" "check_pool" s_check_pool f fd) (T : Txt K mg cBadPool cBadPeople) : FnOk P w K mg base (L2.CX P w) 3 f fd ps_check_pool (sp_check_pool K cBadPool) := by
  obtain ⟨f_is_row, fd_is_row, F_is_row, m_is_row, b_is_row⟩ := T.d_is_row
  have G_is_row : FnOk P w K mg base CX0 1 f_is_row fd_is_row ps_is_row (sp_is_row K) := ok_is_row F_is_row T
  obtain ⟨f_is_whole, fd_is_whole, F_is_whole, m_is_whole, b_is_whole⟩ := T.d_is_whole
  have G_is_whole : FnOk P w K mg base CX0 2 f_is_whole fd_is_whole ps_is_whole (sp_is_whole K) := ok_is_whole F_is_whole T
  obtain ⟨f_i_BadPool, fd_i_BadPool, F_i_BadPool, b_i_BadPool, iC_BadPool, tI_BadPool⟩ := T.y_BadPool.ini
  have G_i_BadPool : FnOk P w K mg base CX0 1 f_i_BadPool fd_i_BadPool ps_i_BadPool (spI2 K cBadPool "place" "what") := ok_i_BadPool F_i_BadPool T
  obtain ⟨u_MOST_COINS, c_MOST_COINS, r_MOST_COINS⟩ := T.c_MOST_COINS
  obtain ⟨u_GREATEST_COIN, c_GREATEST_COIN, r_GREATEST_COIN⟩ := T.c_GREATEST_COIN
  refine F.okX (k := 2) sc_check_pool (fun vs H Q E h => len_check_pool h) (fun cdv A outer s H vs Q E hr h => ?_)
  refine ⟨_, (pss_cons (ps_if (pt_not (pt_val (pe_call G_is_row (hr.mono (by decide)) (by rfl) m_is_row F_is_row.kp b_is_row .nil pass0 (pa_cons (pv 0) (pa_cons pe_int (pa_cons (pe_glob rfl c_MOST_COINS r_MOST_COINS) pa_nil)))))) (pss_one (ps_raise rfl (takes_of rfl rfl rfl rfl) (pmk_oex T.y_BadPool.ox iC_BadPool tI_BadPool G_i_BadPool (hr.mono (by decide)) b_i_BadPool .nil pass0 (by rfl) T.y_BadPool.gC (pa_cons pe_int (pa_cons pe_str pa_nil))))) pss_nil)
      (pss_cons (ps_for (passes_of rfl) rfl (pi_enumE (by rfl) T.n_enumerate (pa_cons (pv 0) pa_nil)) (pg_tup rfl (pgs_cons (pg_name (i := 1) sc_check_pool.nd rfl (Or.inl rfl)) (pgs_cons (pg_name (i := 2) sc_check_pool.nd rfl (Or.inl rfl)) pgs_nil)))
      (pss_one (ps_if (pt_not (pt_val (pe_call G_is_whole (hr.mono (by decide)) (by rfl) m_is_whole F_is_whole.kp b_is_whole .nil pass0 (pa_cons (pv 2) (pa_cons pe_int (pa_cons (pe_glob rfl c_GREATEST_COIN r_GREATEST_COIN) pa_nil)))))) (pss_one (ps_raise rfl (takes_of rfl rfl rfl rfl) (pmk_oex T.y_BadPool.ox iC_BadPool tI_BadPool G_i_BadPool (hr.mono (by decide)) b_i_BadPool .nil pass0 (by rfl) T.y_BadPool.gC (pa_cons (pv 1) (pa_cons pe_str pa_nil))))) pss_nil)))
      (pss_one (ps_ret (pe_callTy call_tuple_of (by rfl) T.n_tuple (by decide +kernel) (pa_cons (pe_callB cr_sortedE (by rfl) T.n_sorted (by decide +kernel) (pa_cons (pv 0) pa_nil)) pa_nil)))))), ?_⟩
  obtain ⟨x, rfl, hp, q1, q2, q3⟩ := h
  simp only [tSeq, tAsg, tDrop, tRet, tRetN, tIfS, tNext, tTest, tB, tNot, tAnd, tOr, tChain, tIf, tAndV, tOrV, tNotV, tOp, tUn, tCB, tCons, tNil, tVar, tC, tCall, tCallS, gName, rI, rI0, rU, rEq, rNe, tTup, tLst, gSub, rSetL, rIxL, rIxT, L2.start, List.map_cons, List.map_nil, List.length_cons, List.length_nil, Nat.reduceAdd, Nat.reduceSub, List.replicate_succ, List.replicate_zero, List.getElem?_cons_zero, List.getElem?_cons_succ, List.set_cons_zero, List.set_cons_succ, Option.some.injEq, exists_eq_left', exists_eq_left, exists_and_left, V.int.injEq, V.bl.injEq, V.ref.injEq, V.str.injEq, List.cons.injEq, and_true, true_and, List.nil_append, List.cons_append, List.append_nil, reduceCtorEq, false_and, exists_false, or_false, false_or, and_false, Int.reduceNeg, decide_eq_true_eq, Bool.not_eq_true', decide_eq_false_iff_not, and_assoc, tYes, ↓reduceIte, wipe, Bool.false_eq_true, Bool.true_eq_false, cxOf, false_implies, true_implies, implies_true, forall_const, sp_is_row]
  refine ⟨hp.1, ?_⟩
  have T0 := T
  by_cases c : ∃ a xs, x = .ref a ∧ Row H a xs
  · obtain ⟨a, xs, rfl, hr⟩ := c
    refine .inl ⟨a, rfl, xs, hr, fun H1 s => ?_⟩
    by_cases hl : xs.length ≤ 12
    case neg =>
      have e : (decide (0 ≤ (xs.length : Int)) && decide ((xs.length : Int) ≤ 12)) = false := by rw [decide_eq_false (show ¬ (xs.length : Int) ≤ 12 by omega), Bool.and_false]
      rw [if_pos e]
      refine raise2 T0.y_BadPool.ox T0.f_BadPool_place T0.f_BadPool_what fun d hd => q1 (fun f => ?_) H1 d s hd
      obtain ⟨b, ys, e1, e2, e3⟩ := f
      cases e1
      rw [Row.one hr e2] at hl
      exact hl e3
    have e : ¬ (decide (0 ≤ (xs.length : Int)) && decide ((xs.length : Int) ≤ 12)) = false := by rw [decide_eq_true (show (0 : Int) ≤ (xs.length : Int) by omega), decide_eq_true (show (xs.length : Int) ≤ 12 by omega)]; decide
    rw [if_neg e]
    refine ⟨_, rfl, a, xs, rfl, ?_⟩
    rcases hr.same s with e1 | e1
    · refine .inr ⟨SqT.of e1, for_enumT (K := K) (a := a) (xs := xs) (fun i z h => ∃ v u, z = [some (.ref a), v, u] ∧ Same H1 h ∧ ∀ j z, j < i → xs[j]? = some z → whole z 1 1000000000 = true) ⟨none, none, rfl, Same.refl H1, fun j _ hj => absurd hj (Nat.not_lt_zero j)⟩ (fun i z h _ ⟨_, _, _, s2, _⟩ => SqT.of (s2 _ _ e1)) ?_ ?_⟩
      · rintro i y T z h hi hT ⟨v, u, rfl, s2, ok⟩
        have sh := s.trans s2
        refine ⟨T, _, rfl, SqT.of upd_same, rfl, _, _, rfl, _, _, rfl, rfl, ?_⟩
        simp only [tSeq, tAsg, tDrop, tRet, tRetN, tIfS, tNext, tTest, tB, tNot, tAnd, tOr, tChain, tIf, tAndV, tOrV, tNotV, tOp, tUn, tCB, tCons, tNil, tVar, tC, tCall, tCallS, gName, rI, rI0, rU, rEq, rNe, tTup, tLst, gSub, rSetL, rIxL, rIxT, L2.start, List.map_cons, List.map_nil, List.length_cons, List.length_nil, Nat.reduceAdd, Nat.reduceSub, List.replicate_succ, List.replicate_zero, List.getElem?_cons_zero, List.getElem?_cons_succ, List.set_cons_zero, List.set_cons_succ, Option.some.injEq, exists_eq_left', exists_eq_left, exists_and_left, V.int.injEq, V.bl.injEq, V.ref.injEq, V.str.injEq, List.cons.injEq, and_true, true_and, List.nil_append, List.cons_append, List.append_nil, reduceCtorEq, false_and, exists_false, or_false, false_or, and_false, Int.reduceNeg, decide_eq_true_eq, Bool.not_eq_true', decide_eq_false_iff_not, and_assoc, tYes, ↓reduceIte, wipe, Bool.false_eq_true, Bool.true_eq_false, cxOf, false_implies, true_implies, implies_true, forall_const, sp_is_whole]
        refine ⟨((hp.2 a xs rfl hr y (List.mem_of_getElem? hi)).same sh).same (Same.new hT), ?_⟩
        split
        · rename_i w0
          exact ⟨_, rfl, raise2 T0.y_BadPool.ox T0.f_BadPool_place T0.f_BadPool_what fun d hd => q2 a xs i y rfl hr hl ok hi w0 _ d (sh.trans (Same.new hT)) hd⟩
        · rename_i w1
          refine ⟨s2.trans (Same.new hT), fun j x hj hx => ?_⟩
          rcases Nat.lt_succ_iff_lt_or_eq.mp hj with g | g
          · exact ok j x g hx
          · rw [g, hi] at hx
            cases hx
            simpa using w1
      · rintro z h ⟨v, u, rfl, s2, ok⟩
        have sh := s.trans s2
        obtain ⟨ns, rfl, nb⟩ := ints_of (m := 1000000000) fun x hx => by
          obtain ⟨j, hj, ej⟩ := List.mem_iff_getElem.mp hx
          exact ok j x hj (by rw [List.getElem?_eq_getElem hj, ej])
        simp only [tSeq, tAsg, tDrop, tRet, tRetN, tIfS, tNext, tTest, tB, tNot, tAnd, tOr, tChain, tIf, tAndV, tOrV, tNotV, tOp, tUn, tCB, tCons, tNil, tVar, tC, tCall, tCallS, gName, rI, rI0, rU, rEq, rNe, tTup, tLst, gSub, rSetL, rIxL, rIxT, L2.start, List.map_cons, List.map_nil, List.length_cons, List.length_nil, Nat.reduceAdd, Nat.reduceSub, List.replicate_succ, List.replicate_zero, List.getElem?_cons_zero, List.getElem?_cons_succ, List.set_cons_zero, List.set_cons_succ, Option.some.injEq, exists_eq_left', exists_eq_left, exists_and_left, V.int.injEq, V.bl.injEq, V.ref.injEq, V.str.injEq, List.cons.injEq, and_true, true_and, List.nil_append, List.cons_append, List.append_nil, reduceCtorEq, false_and, exists_false, or_false, false_or, and_false, Int.reduceNeg, decide_eq_true_eq, Bool.not_eq_true', decide_eq_false_iff_not, and_assoc, tYes, ↓reduceIte, wipe, Bool.false_eq_true, Bool.true_eq_false, cxOf, false_implies, true_implies, implies_true, forall_const, rSortedE]
        refine ⟨ns, (hr.same sh).sq, fun ms b p1 p2 hb => ⟨_, .inl ⟨SqL.of upd_same, fun l hl2 => ?_⟩⟩⟩
        exact q3 a ns rfl hr (by rw [List.length_map] at hl; exact hl) nb _ l ms (sh.trans ((Same.new hb).trans (Same.new hl2))) upd_same p1 p2
    · refine .inl ⟨SqL.of e1, for_enum (K := K) (a := a) (xs := xs) (fun i z h => ∃ v u, z = [some (.ref a), v, u] ∧ Same H1 h ∧ ∀ j z, j < i → xs[j]? = some z → whole z 1 1000000000 = true) ⟨none, none, rfl, Same.refl H1, fun j _ hj => absurd hj (Nat.not_lt_zero j)⟩ (fun i z h _ ⟨_, _, _, s2, _⟩ => SqL.of (s2 _ _ e1)) ?_ ?_⟩
      · rintro i y T z h hi hT ⟨v, u, rfl, s2, ok⟩
        have sh := s.trans s2
        refine ⟨T, _, rfl, SqT.of upd_same, rfl, _, _, rfl, _, _, rfl, rfl, ?_⟩
        simp only [tSeq, tAsg, tDrop, tRet, tRetN, tIfS, tNext, tTest, tB, tNot, tAnd, tOr, tChain, tIf, tAndV, tOrV, tNotV, tOp, tUn, tCB, tCons, tNil, tVar, tC, tCall, tCallS, gName, rI, rI0, rU, rEq, rNe, tTup, tLst, gSub, rSetL, rIxL, rIxT, L2.start, List.map_cons, List.map_nil, List.length_cons, List.length_nil, Nat.reduceAdd, Nat.reduceSub, List.replicate_succ, List.replicate_zero, List.getElem?_cons_zero, List.getElem?_cons_succ, List.set_cons_zero, List.set_cons_succ, Option.some.injEq, exists_eq_left', exists_eq_left, exists_and_left, V.int.injEq, V.bl.injEq, V.ref.injEq, V.str.injEq, List.cons.injEq, and_true, true_and, List.nil_append, List.cons_append, List.append_nil, reduceCtorEq, false_and, exists_false, or_false, false_or, and_false, Int.reduceNeg, decide_eq_true_eq, Bool.not_eq_true', decide_eq_false_iff_not, and_assoc, tYes, ↓reduceIte, wipe, Bool.false_eq_true, Bool.true_eq_false, cxOf, false_implies, true_implies, implies_true, forall_const, sp_is_whole]
        refine ⟨((hp.2 a xs rfl hr y (List.mem_of_getElem? hi)).same sh).same (Same.new hT), ?_⟩
        split
        · rename_i w0
          exact ⟨_, rfl, raise2 T0.y_BadPool.ox T0.f_BadPool_place T0.f_BadPool_what fun d hd => q2 a xs i y rfl hr hl ok hi w0 _ d (sh.trans (Same.new hT)) hd⟩
        · rename_i w1
          refine ⟨s2.trans (Same.new hT), fun j x hj hx => ?_⟩
          rcases Nat.lt_succ_iff_lt_or_eq.mp hj with g | g
          · exact ok j x g hx
          · rw [g, hi] at hx
            cases hx
            simpa using w1
      · rintro z h ⟨v, u, rfl, s2, ok⟩
        have sh := s.trans s2
        obtain ⟨ns, rfl, nb⟩ := ints_of (m := 1000000000) fun x hx => by
          obtain ⟨j, hj, ej⟩ := List.mem_iff_getElem.mp hx
          exact ok j x hj (by rw [List.getElem?_eq_getElem hj, ej])
        simp only [tSeq, tAsg, tDrop, tRet, tRetN, tIfS, tNext, tTest, tB, tNot, tAnd, tOr, tChain, tIf, tAndV, tOrV, tNotV, tOp, tUn, tCB, tCons, tNil, tVar, tC, tCall, tCallS, gName, rI, rI0, rU, rEq, rNe, tTup, tLst, gSub, rSetL, rIxL, rIxT, L2.start, List.map_cons, List.map_nil, List.length_cons, List.length_nil, Nat.reduceAdd, Nat.reduceSub, List.replicate_succ, List.replicate_zero, List.getElem?_cons_zero, List.getElem?_cons_succ, List.set_cons_zero, List.set_cons_succ, Option.some.injEq, exists_eq_left', exists_eq_left, exists_and_left, V.int.injEq, V.bl.injEq, V.ref.injEq, V.str.injEq, List.cons.injEq, and_true, true_and, List.nil_append, List.cons_append, List.append_nil, reduceCtorEq, false_and, exists_false, or_false, false_or, and_false, Int.reduceNeg, decide_eq_true_eq, Bool.not_eq_true', decide_eq_false_iff_not, and_assoc, tYes, ↓reduceIte, wipe, Bool.false_eq_true, Bool.true_eq_false, cxOf, false_implies, true_implies, implies_true, forall_const, rSortedE]
        refine ⟨ns, (hr.same sh).sq, fun ms b p1 p2 hb => ⟨_, .inl ⟨SqL.of upd_same, fun l hl2 => ?_⟩⟩⟩
        exact q3 a ns rfl hr (by rw [List.length_map] at hl; exact hl) nb _ l ms (sh.trans ((Same.new hb).trans (Same.new hl2))) upd_same p1 p2
  · refine .inr ⟨fun a xs e1 e2 => c ⟨a, xs, e1, e2⟩, fun H1 s => raise2 T0.y_BadPool.ox T0.f_BadPool_place T0.f_BadPool_what fun d hd => q1 (fun f => ?_) H1 d s hd⟩
    obtain ⟨b, ys, e1, e2, _⟩ := f
    exact c ⟨b, ys, e1, e2⟩
end
end My
set_option Elab.async false
set_option linter.all false
set_option maxRecDepth 100000
set_option maxHeartbeats 4000000
/-! ## coins that mend a pool: greatest put first; no fewer do -/
namespace Gen
open PySem PySem.Spec PyProof.Rows L2
/-- how many coins are put before c, of at most n -/
def stp (p c : Int) : Nat → Int → Nat
  | 0, _ => 0
  | n + 1, a => if c ≤ room p a then 0 else stp p c n (a + room p a) + 1
theorem stp_le {p c : Int} : ∀ (n : Nat) (a : Int), stp p c n a ≤ n
  | 0, _ => Nat.le_refl 0
  | n + 1, a => by
    unfold stp
    split
    · omega
    · have := stp_le (p := p) (c := c) n (a + room p a)
      omega
theorem stp_lo {p c : Int} : ∀ (n : Nat) (a : Int) (j : Nat), j < stp p c n a → room p (grow p j a) < c
  | 0, _, _, h => absurd h (Nat.not_lt_zero _)
  | n + 1, a, j, h => by
    unfold stp at h
    by_cases e : c ≤ room p a
    · rw [if_pos e] at h
      exact absurd h (Nat.not_lt_zero _)
    · rw [if_neg e] at h
      cases j with
      | zero => show room p a < c; omega
      | succ j =>
        rw [grow_front]
        exact stp_lo n _ j (by omega)
theorem stp_hi {p c : Int} : ∀ (n : Nat) (a : Int), (∃ j, j < n ∧ c ≤ room p (grow p j a)) → c ≤ room p (grow p (stp p c n a) a)
  | 0, _, ⟨j, h, _⟩ => absurd h (Nat.not_lt_zero _)
  | n + 1, a, ⟨j, h, g⟩ => by
    unfold stp
    by_cases e : c ≤ room p a
    · rw [if_pos e]
      exact e
    · rw [if_neg e, grow_front]
      cases j with
      | zero => exact absurd g e
      | succ j =>
        rw [grow_front] at g
        exact stp_hi n _ ⟨j, by omega, g⟩
theorem grow_mono {p : Int} (hp : 2 ≤ p) : ∀ (k : Nat) {a b : Int}, a ≤ b → grow p k a ≤ grow p k b
  | 0, _, _, h => h
  | k + 1, a, b, h => by
    have h1 := grow_mono hp k h
    have h2 := room_mono hp h1
    show grow p k a + room p (grow p k a) ≤ grow p k b + room p (grow p k b)
    omega
theorem room_far {p : Int} (h2 : 2 ≤ p) (h5 : p ≤ 5) : 1000000000 ≤ room p (grow p 399 0) := by
  have e : p = 2 ∨ p = 3 ∨ p = 4 ∨ p = 5 := by omega
  rcases e with rfl | rfl | rfl | rfl <;> decide +kernel
theorem stp_ok {p c a : Int} (h2 : 2 ≤ p) (h5 : p ≤ 5) (a0 : 0 ≤ a) (hc : c ≤ 1000000000) : c ≤ room p (grow p (stp p c 400 a) a) :=
  stp_hi 400 a ⟨399, by decide, Int.le_trans hc (Int.le_trans (room_far h2 h5) (room_mono h2 (grow_mono h2 399 a0)))⟩
/-- the coins put before c -/
def puts (p a : Int) (k : Nat) : List Int := (List.range k).map fun j => room p (grow p j a)
theorem puts_succ (p a : Int) (k : Nat) : puts p a (k + 1) = puts p a k ++ [room p (grow p k a)] := by
  unfold puts
  rw [List.range_succ, List.map_append]
  rfl
theorem puts_len (p a : Int) (k : Nat) : (puts p a k).length = k := by
  unfold puts
  rw [List.length_map, List.length_range]
/-- all that is put, and what is reached -/
def mendA (p : Int) : List Int → Int
  | [] => 0
  | c :: cs => grow p (stp p c 400 (mendA p cs)) (mendA p cs) + c
def mendL (p : Int) : List Int → List Int
  | [] => []
  | c :: cs => mendL p cs ++ puts p (mendA p cs) (stp p c 400 (mendA p cs))
/-- cs from the left: the last coin comes first here -/
def mA (p : Int) (cs : List Int) : Int := mendA p cs.reverse
def mL (p : Int) (cs : List Int) : List Int := mendL p cs.reverse
theorem mA_snoc (p : Int) (cs : List Int) (c : Int) : mA p (cs ++ [c]) = grow p (stp p c 400 (mA p cs)) (mA p cs) + c := by
  unfold mA
  rw [List.reverse_append]
  rfl
theorem mL_snoc (p : Int) (cs : List Int) (c : Int) : mL p (cs ++ [c]) = mL p cs ++ puts p (mA p cs) (stp p c 400 (mA p cs)) := by
  unfold mL mA
  rw [List.reverse_append]
  rfl
theorem mA_nonneg {p : Int} (hp : 2 ≤ p) {cs : List Int} (h : ∀ c, c ∈ cs → 1 ≤ c) : 0 ≤ mA p cs := by
  unfold mA
  have h' : ∀ c, c ∈ cs.reverse → 1 ≤ c := fun c hc => h c (List.mem_reverse.mp hc)
  generalize cs.reverse = l at h' ⊢
  induction l with
  | nil => exact Int.le_refl 0
  | cons c l ih =>
    have i := ih fun x hx => h' x (List.mem_cons_of_mem _ hx)
    have g := (grow_le hp (stp p c 400 (mendA p l)) i).1
    have c1 := h' c List.mem_cons_self
    show 0 ≤ grow p (stp p c 400 (mendA p l)) (mendA p l) + c
    omega
/-- sum a, and sorted they serve -/
def G2 (p a : Int) (l : List Int) : Prop := l.sum = a ∧ ∃ ms : List Int, ms.Perm l ∧ ms.Pairwise (· ≤ ·) ∧ Srv p 0 ms
theorem G2.perm {p a : Int} {l m : List Int} (g : G2 p a l) (h : l.Perm m) : G2 p a m := by
  obtain ⟨e, ms, h1, h2, h3⟩ := g
  exact ⟨by rw [← sum_perm h]; exact e, ms, h1.trans h, h2, h3⟩
theorem G2.put {p a c : Int} {l : List Int} (hp : 2 ≤ p) (g : G2 p a l) (c0 : 0 ≤ c) (h : c ≤ room p a) : G2 p (a + c) (l ++ [c]) := by
  obtain ⟨e, ms, h1, h2, h3⟩ := g
  have es : ms.sum = a := by rw [sum_perm h1]; exact e
  exact ⟨by rw [List.sum_append, e]; simp, insI c ms, (insI_perm c ms).trans ((h1.cons c).trans (List.perm_append_comm (l₁ := [c]))), insI_sorted h2, Srv.ins hp c0 h3 (by rw [es, Int.zero_add]; exact h)⟩
theorem G2.puts {p a : Int} {l : List Int} (hp : 2 ≤ p) (a0 : 0 ≤ a) (g : G2 p a l) : ∀ k : Nat, G2 p (grow p k a) (l ++ Gen.puts p a k)
  | 0 => by
    have e : Gen.puts p a 0 = [] := rfl
    rw [e, List.append_nil]
    exact g
  | k + 1 => by
    have h0 := (grow_le hp k a0).1
    rw [puts_succ, ← List.append_assoc]
    exact (G2.puts hp a0 g k).put hp (by have := room_pos hp h0; omega) (Int.le_refl _)
theorem mendA_nonneg {p : Int} (hp : 2 ≤ p) : ∀ {l : List Int}, (∀ c, c ∈ l → 1 ≤ c) → 0 ≤ mendA p l
  | [], _ => Int.le_refl 0
  | c :: l, h => by
    have i := mendA_nonneg hp fun x hx => h x (List.mem_cons_of_mem _ hx)
    have g := (grow_le hp (stp p c 400 (mendA p l)) i).1
    have c1 := h c List.mem_cons_self
    show 0 ≤ grow p (stp p c 400 (mendA p l)) (mendA p l) + c
    omega
theorem mend_good {p : Int} (hp : 2 ≤ p) (h5 : p ≤ 5) : ∀ {l : List Int}, (∀ c, c ∈ l → 1 ≤ c ∧ c ≤ 1000000000) → G2 p (mendA p l) (l ++ mendL p l)
  | [], _ => ⟨rfl, [], .refl _, List.Pairwise.nil, True.intro⟩
  | c :: l, h => by
    have hl : ∀ c, c ∈ l → 1 ≤ c ∧ c ≤ 1000000000 := fun x hx => h x (List.mem_cons_of_mem _ hx)
    have hc := h c List.mem_cons_self
    have a0 := mendA_nonneg hp fun x hx => (hl x hx).1
    have g := ((mend_good hp h5 hl).puts hp a0 (stp p c 400 (mendA p l))).put hp (by omega) (stp_ok hp h5 a0 hc.2)
    refine g.perm ?_
    show (((l ++ mendL p l) ++ Gen.puts p (mendA p l) _) ++ [c]).Perm (c :: l ++ (mendL p l ++ Gen.puts p (mendA p l) _))
    rw [List.append_assoc l]
    exact List.perm_append_comm (l₂ := [c])
/-! ### no fewer coins do -/
theorem filter_sum {r : Int} : ∀ {l : List Int}, (∀ x, x ∈ l → 0 ≤ x) → 0 ≤ (l.filter fun x => decide (x ≤ r)).sum ∧ (l.filter fun x => decide (x ≤ r)).sum ≤ l.sum
  | [], _ => ⟨Int.le_refl 0, Int.le_refl 0⟩
  | x :: l, h => by
    have ih := filter_sum (r := r) fun y hy => h y (List.mem_cons_of_mem _ hy)
    have x0 := h x List.mem_cons_self
    by_cases e : x ≤ r
    · rw [List.filter_cons_of_pos (by simpa using e), List.sum_cons, List.sum_cons]
      omega
    · rw [List.filter_cons_of_neg (by simpa using e), List.sum_cons]
      omega
theorem filter_none {r : Int} {l : List Int} (h : ∀ x, x ∈ l → r < x) : (l.filter fun x => decide (x ≤ r)) = [] := by
  rw [List.filter_eq_nil_iff]
  intro x hx
  have := h x hx
  simp
  omega
theorem over {p r : Int} (hp : 2 ≤ p) : ∀ {S : List Int} {q : Int}, (∀ x, x ∈ S → 0 ≤ x) → Srv p q S → (∃ s, s ∈ S ∧ r < s) → ∃ s, r < s ∧ s ≤ room p (q + (S.filter fun x => decide (x ≤ r)).sum)
  | [], _, _, _, ⟨s, h, _⟩ => absurd h List.not_mem_nil
  | d :: ds, q, h0, ⟨v1, v2⟩, ⟨s, hs, hr⟩ => by
    have h0' : ∀ x, x ∈ ds → 0 ≤ x := fun x hx => h0 x (List.mem_cons_of_mem _ hx)
    by_cases e : d ≤ r
    · rw [List.filter_cons_of_pos (by simpa using e), List.sum_cons, ← Int.add_assoc]
      rcases List.mem_cons.mp hs with rfl | hs
      · omega
      · exact over hp h0' v2 ⟨s, hs, hr⟩
    · rw [List.filter_cons_of_neg (by simpa using e)]
      have := (filter_sum (r := r) h0').1
      exact ⟨d, by omega, Int.le_trans v1 (room_mono hp (by omega))⟩
inductive Le2 : List Int → List Int → Prop
  | nil : Le2 [] []
  | snoc {X O : List Int} {y r : Int} : Le2 X O → y ≤ r → Le2 (X ++ [y]) (O ++ [r])
theorem Le2.sum {X O : List Int} (h : Le2 X O) : X.sum ≤ O.sum := by
  induction h with
  | nil => exact Int.le_refl 0
  | snoc _ e ih =>
    rw [List.sum_append, List.sum_append]
    simp
    omega
theorem Le2.len {X O : List Int} (h : Le2 X O) : X.length = O.length := by
  induction h with
  | nil => rfl
  | snoc _ _ ih => rw [List.length_append, List.length_append, ih]; rfl
theorem one_more {p c : Int} {P rest X Y O S : List Int} (hp : 2 ≤ p) (hcs : (P ++ c :: rest).Pairwise (· ≤ ·)) (hL : (X ++ Y).Pairwise (· ≤ ·)) (h0 : ∀ x, x ∈ S → 0 ≤ x) (hS : S.Perm ((P ++ c :: rest) ++ (X ++ Y))) (v : Srv p 0 S) (le : Le2 X O)
    (hc : room p (P.sum + O.sum) < c) : ∃ y Y', Y = y :: Y' ∧ y ≤ room p (P.sum + O.sum) := by
  generalize hr : room p (P.sum + O.sum) = r at hc ⊢
  by_cases g : ∃ y Y', Y = y :: Y' ∧ y ≤ r
  · exact g
  · exfalso
    have hY : ∀ x, x ∈ Y → r < x := by
      cases Y with
      | nil => exact fun x hx => absurd hx List.not_mem_nil
      | cons y Y' =>
        have hy : r < y := Int.not_le.mp fun z => g ⟨y, Y', rfl, z⟩
        intro x hx
        rcases List.mem_cons.mp hx with rfl | hx
        · exact hy
        · have := (List.pairwise_cons.mp (List.pairwise_append.mp hL).2.1).1 x hx
          omega
    have hR : ∀ x, x ∈ c :: rest → r < x := by
      intro x hx
      rcases List.mem_cons.mp hx with rfl | hx
      · exact hc
      · have := (List.pairwise_cons.mp (List.pairwise_append.mp hcs).2.1).1 x hx
        omega
    have mem : ∀ x, x ∈ (P ++ c :: rest) ++ (X ++ Y) → 0 ≤ x := fun x hx => h0 x (hS.symm.subset hx)
    obtain ⟨s, s1, s2⟩ := over (r := r) hp h0 v ⟨c, hS.symm.subset (by simp), hc⟩
    have e : (S.filter fun x => decide (x ≤ r)).sum = (P.filter fun x => decide (x ≤ r)).sum + (X.filter fun x => decide (x ≤ r)).sum := by
      rw [sum_perm (hS.filter _), List.filter_append, List.filter_append, List.filter_append, filter_none hR, filter_none hY, List.append_nil, List.append_nil, List.sum_append]
    have f1 := (filter_sum (r := r) (l := P) fun x hx => mem x (by simp [hx])).2
    have f2 := (filter_sum (r := r) (l := X) fun x hx => mem x (by simp [hx])).2
    have f3 := le.sum
    have f4 := room_mono hp (show 0 + (S.filter fun x => decide (x ≤ r)).sum ≤ P.sum + O.sum by omega)
    omega
theorem puts_sum {p a : Int} : ∀ k : Nat, grow p k a = a + (Gen.puts p a k).sum
  | 0 => by show a = a + 0; omega
  | k + 1 => by
    rw [puts_succ, List.sum_append]
    have := puts_sum (p := p) (a := a) k
    show grow p k a + room p (grow p k a) = _
    simp
    omega
theorem mendA_sum {p : Int} : ∀ l : List Int, mendA p l = l.sum + (mendL p l).sum
  | [] => rfl
  | c :: l => by
    have ih := mendA_sum (p := p) l
    show grow p _ (mendA p l) + c = (c :: l).sum + (mendL p l ++ Gen.puts p (mendA p l) _).sum
    rw [puts_sum, List.sum_append, List.sum_cons]
    omega
theorem dom {p : Int} {L S : List Int} (hp : 2 ≤ p) (hL : L.Pairwise (· ≤ ·)) (h0 : ∀ x, x ∈ S → 0 ≤ x) (v : Srv p 0 S) : ∀ (l rest : List Int), (l.reverse ++ rest).Pairwise (· ≤ ·) → S.Perm ((l.reverse ++ rest) ++ L) → ∃ X Y, L = X ++ Y ∧ Le2 X (mendL p l)
  | [], rest, _, _ => ⟨[], L, rfl, .nil⟩
  | c :: l, rest, hs, hS => by
    rw [List.reverse_cons, List.append_assoc l.reverse [c] rest] at hs hS
    have ih := dom hp hL h0 v l ([c] ++ rest) hs hS
    have go : ∀ k : Nat, k ≤ stp p c 400 (mendA p l) → ∃ X Y, L = X ++ Y ∧ Le2 X (mendL p l ++ Gen.puts p (mendA p l) k) := by
      intro k
      induction k with
      | zero =>
        intro _
        have e : Gen.puts p (mendA p l) 0 = [] := rfl
        rw [e, List.append_nil]
        exact ih
      | succ k ik =>
        intro hk
        obtain ⟨X, Y, eL, le⟩ := ik (by omega)
        have lo := stp_lo 400 (mendA p l) k hk
        have ea : grow p k (mendA p l) = l.reverse.sum + (mendL p l ++ Gen.puts p (mendA p l) k).sum := by
          rw [puts_sum, List.sum_append, mendA_sum, sum_perm (List.reverse_perm l)]
          omega
        rw [ea] at lo
        rw [eL] at hL hS
        obtain ⟨y, Y', eY, hy⟩ := one_more hp hs hL h0 hS v le lo
        refine ⟨X ++ [y], Y', by rw [eL, eY, List.append_assoc]; rfl, ?_⟩
        rw [puts_succ, ← List.append_assoc, ea]
        exact le.snoc hy
    exact go _ (Nat.le_refl _)
theorem fewest {p : Int} {cs L S : List Int} (hp : 2 ≤ p) (hcs : cs.Pairwise (· ≤ ·)) (h0 : ∀ x, x ∈ cs ++ L → 0 ≤ x) (hS : S.Perm (cs ++ L)) (v : Srv p 0 S) : (mL p cs).length ≤ L.length := by
  have srt : ∀ l : List Int, ∃ m : List Int, m.Perm l ∧ m.Pairwise (· ≤ ·) := fun l => by
    induction l with
    | nil => exact ⟨[], .refl _, List.Pairwise.nil⟩
    | cons x l ih =>
      obtain ⟨m, m1, m2⟩ := ih
      exact ⟨insI x m, (insI_perm x m).trans (m1.cons x), insI_sorted m2⟩
  obtain ⟨M, m1, m2⟩ := srt L
  obtain ⟨X, Y, e, le⟩ := dom hp m2 (fun x hx => h0 x (hS.subset hx)) v cs.reverse [] (by rw [List.reverse_reverse, List.append_nil]; exact hcs) (by rw [List.reverse_reverse, List.append_nil]; exact hS.trans (List.Perm.append_left cs m1.symm))
  have l1 := le.len
  have l2 := m1.length_eq
  rw [e, List.length_append] at l2
  show (mendL p cs.reverse).length ≤ L.length
  omega
end Gen
set_option Elab.async false
set_option linter.all false
set_option maxRecDepth 100000
set_option maxHeartbeats 4000000
namespace My
open PySem PySem.Spec PyProof.Rows L2 Gen
section
variable {P : Program} {w : World} {K : PySem.W.Frag} {mg : Str → Option Value} {base : Heap} { cBadPool cBadPeople : Addr}
abbrev sp_l_mix (_ : PySem.W.Frag) : Sp := spMix
theorem len_l_mix {vs H Q E} (h : sp_l_mix K vs H Q E) : vs.length = 2 := by
  obtain ⟨_, _, rfl, _⟩ := h; rfl
theorem ok_l_mix {f : Addr} {fd : FuncData} (F : Fun K "_law_mix" "_law_mix" s_l_mix f fd) (T : Txt K mg cBadPool cBadPeople) : FnOk P w K mg base CX0 1 f fd ps_l_mix (sp_l_mix K) := by
  refine F.ok (k := 0) sc_l_mix (fun vs H Q E h => len_l_mix h) (fun cdv A outer s H vs Q E hr h => ?_)
  refine ⟨_, (pss_cons (ps_set (i := 2) sc_l_mix.nd rfl (Or.inl rfl) (pe_op op_mod (pe_callTy call_int1 (by rfl) T.n_int (by decide +kernel) (pa_cons (pe_op op_add (pe_op op_add (pe_op op_mul (pv 0) pe_int) (pe_op op_mul (pv 1) pe_int)) pe_int) pa_nil)) pe_int))
      (pss_cons (ps_set (i := 3) sc_l_mix.nd rfl (Or.inl rfl) (pe_op op_mod (pe_callTy call_int1 (by rfl) T.n_int (by decide +kernel) (pa_cons (pe_op op_add (pe_op op_add (pe_op op_mul (pv 2) (pv 2)) (pe_op op_mul (pe_op op_fdivW (pv 2) pe_int) pe_int)) (pe_op op_mul (pv 1) pe_int)) pa_nil)) pe_int))
      (pss_one (ps_ret (pe_op op_fdivW (pe_op op_mod (pe_callTy call_int1 (by rfl) T.n_int (by decide +kernel) (pa_cons (pe_op op_add (pe_op op_fdivW (pe_op op_mul (pv 3) (pv 3)) pe_int) (pv 2)) pa_nil)) pe_int) pe_int))))), ?_⟩
  obtain ⟨n, t, rfl, n0, n1, t0, t1, q⟩ := h
  simp only [tSeq, tAsg, tDrop, tRet, tRetN, tIfS, tNext, tTest, tB, tNot, tAnd, tOr, tChain, tIf, tAndV, tOrV, tNotV, tOp, tUn, tCB, tCons, tNil, tVar, tC, tCall, tCallS, gName, rI, rI0, rU, rEq, rNe, tTup, tLst, gSub, rSetL, rIxL, rIxT, L2.start, List.map_cons, List.map_nil, List.length_cons, List.length_nil, Nat.reduceAdd, Nat.reduceSub, List.replicate_succ, List.replicate_zero, List.getElem?_cons_zero, List.getElem?_cons_succ, List.set_cons_zero, List.set_cons_succ, Option.some.injEq, exists_eq_left', exists_eq_left, exists_and_left, V.int.injEq, V.bl.injEq, V.ref.injEq, V.str.injEq, List.cons.injEq, and_true, true_and, List.nil_append, List.cons_append, List.append_nil, reduceCtorEq, false_and, exists_false, or_false, false_or, and_false, Int.reduceNeg, decide_eq_true_eq, Bool.not_eq_true', decide_eq_false_iff_not, and_assoc, tYes, ↓reduceIte, wipe, Bool.false_eq_true, Bool.true_eq_false, cxOf, false_implies, true_implies, implies_true, forall_const]
  have a0 := Int.emod_nonneg (n * 48271 + t * 16807 + 11) (b := 2147483647) (by decide)
  have a1 := Int.emod_lt_of_pos (n * 48271 + t * 16807 + 11) (b := 2147483647) (by decide)
  generalize (n * 48271 + t * 16807 + 11) % 2147483647 = x at a0 a1 ⊢
  refine ⟨cmr (by decide) (by decide), cmr (by decide) (by decide), by decide, cml (by omega) (by omega), cdw (by decide) (by decide), cmr (by decide) (by decide), cmr (by decide) (by decide), by decide, ?_⟩
  have b0 := Int.emod_nonneg (x * x + x / 127 * 40692 + t * 69621) (b := 2147483399) (by decide)
  have b1 := Int.emod_lt_of_pos (x * x + x / 127 * 40692 + t * 69621) (b := 2147483399) (by decide)
  generalize (x * x + x / 127 * 40692 + t * 69621) % 2147483399 = y at b0 b1 ⊢
  exact ⟨cml (by omega) (by omega), cdw (by decide) (by decide), by decide, cdw (by decide) (by decide), q _ (Int.ediv_nonneg (Int.emod_nonneg _ (by decide)) (by decide))⟩
theorem abs_take {ns : List Int} {i : Nat} {c : Int} (h : ns[i]? = some c) : ((ns.take (i + 1)).map fun c => V.int (if c < 0 then -c else c)) = ((ns.take i).map fun c => V.int (if c < 0 then -c else c)) ++ [V.int (if c < 0 then -c else c)] := by
  rw [List.take_add_one, h, List.map_append]
  rfl
abbrev sp_l_hand (K : PySem.W.Frag) : Sp := spHand K
theorem len_l_hand {vs H Q E} (h : sp_l_hand K vs H Q E) : vs.length = 1 := by
  obtain ⟨_, _, rfl, _⟩ := h; rfl
theorem ok_l_hand {f : Addr} {fd : FuncData} (F : Fun K "_law_hand" "_law_hand" s_l_hand f fd) (T : Txt K mg cBadPool cBadPeople) : FnOk P w K mg base CX0 1 f fd ps_l_hand (sp_l_hand K) := by
  refine F.ok (k := 0) sc_l_hand (fun vs H Q E h => len_l_hand h) (fun cdv A outer s H vs Q E hr h => ?_)
  refine ⟨_, (pss_cons (ps_set (i := 1) sc_l_hand.nd rfl (Or.inl rfl) pe_int)
      (pss_cons (ps_for PassesOwn.never rfl (pi_enum (by rfl) T.n_enumerate (pa_cons (pv 0) pa_nil)) (pg_tup rfl (pgs_cons (pg_name (i := 2) sc_l_hand.nd rfl (Or.inl rfl)) (pgs_cons (pg_name (i := 3) sc_l_hand.nd rfl (Or.inl rfl)) pgs_nil)))
      (pss_one (ps_set (i := 1) sc_l_hand.nd rfl (Or.inl rfl) (pe_op op_mod (pe_callTy call_int1 (by rfl) T.n_int (by decide +kernel) (pa_cons (pe_op op_add (pe_op op_mul (pv 1) pe_int) (pe_op op_mul (pe_callTy call_int1 (by rfl) T.n_int (by decide +kernel) (pa_cons (pv 3) pa_nil)) (pe_op op_add (pv 2) pe_int))) pa_nil)) pe_int))))
      (pss_one (ps_ret (pe_lst (pa_cons (pe_lc (own := [("_law_cell", 3)]) (g := gName 3) (tt := tYes) rfl sc_l_hand.nd (pi_list (pv 0)) (blkOk_by (N := nm_l_hand) (sc := defScope s_l_hand) (by decide +kernel)) (fun _ _ _ _ _ => (pg_name (i := 3) sc_l_hand.nd rfl (Or.inl rfl))) (fun _ _ _ _ _ => pts_nil) (fun _ _ _ _ _ => (pe_callB call_abs (by rfl) T.n_abs (by decide +kernel) (pa_cons (pe_callTy call_int1 (by rfl) T.n_int (by decide +kernel) (pa_cons (pv 3) pa_nil)) pa_nil)))) (pa_cons pe_int (pa_cons pe_int (pa_cons (pv 1) pa_nil))))))))), ?_⟩
  obtain ⟨a, ns, rfl, hS, hn, q⟩ := h
  simp only [tSeq, tAsg, tDrop, tRet, tRetN, tIfS, tNext, tTest, tB, tNot, tAnd, tOr, tChain, tIf, tAndV, tOrV, tNotV, tOp, tUn, tCB, tCons, tNil, tVar, tC, tCall, tCallS, gName, rI, rI0, rU, rEq, rNe, tTup, tLst, gSub, rSetL, rIxL, rIxT, L2.start, List.map_cons, List.map_nil, List.length_cons, List.length_nil, Nat.reduceAdd, Nat.reduceSub, List.replicate_succ, List.replicate_zero, List.getElem?_cons_zero, List.getElem?_cons_succ, List.set_cons_zero, List.set_cons_succ, Option.some.injEq, exists_eq_left', exists_eq_left, exists_and_left, V.int.injEq, V.bl.injEq, V.ref.injEq, V.str.injEq, List.cons.injEq, and_true, true_and, List.nil_append, List.cons_append, List.append_nil, reduceCtorEq, false_and, exists_false, or_false, false_or, and_false, Int.reduceNeg, decide_eq_true_eq, Bool.not_eq_true', decide_eq_false_iff_not, and_assoc, tYes, ↓reduceIte, wipe, Bool.false_eq_true, Bool.true_eq_false, cxOf, false_implies, true_implies, implies_true, forall_const]
  refine ⟨_, rfl, a, _, rfl, hS, for_enum (K := K) (a := a) (xs := ns.map V.int) (fun i z h => ∃ (t : Int) (v u : Option V), z = [some (.ref a), some (.int t), v, u] ∧ 0 ≤ t ∧ t < 2147483629 ∧ Same H h)
    ⟨0, none, none, rfl, by decide, by decide, Same.refl H⟩ (fun i z h _ ⟨_, _, _, _, _, _, s⟩ => s.seq hS) ?_ ?_⟩
  · rintro i y T z h hi hT ⟨t, v, u, rfl, t0, t1, s⟩
    obtain ⟨c, hc, rfl⟩ := nat_map hi
    have hil := (List.getElem?_eq_some_iff.mp hc).1
    refine ⟨T, _, rfl, SqT.of upd_same, rfl, _, _, rfl, _, _, rfl, rfl, ?_⟩
    simp only [tSeq, tAsg, tDrop, tRet, tRetN, tIfS, tNext, tTest, tB, tNot, tAnd, tOr, tChain, tIf, tAndV, tOrV, tNotV, tOp, tUn, tCB, tCons, tNil, tVar, tC, tCall, tCallS, gName, rI, rI0, rU, rEq, rNe, tTup, tLst, gSub, rSetL, rIxL, rIxT, L2.start, List.map_cons, List.map_nil, List.length_cons, List.length_nil, Nat.reduceAdd, Nat.reduceSub, List.replicate_succ, List.replicate_zero, List.getElem?_cons_zero, List.getElem?_cons_succ, List.set_cons_zero, List.set_cons_succ, Option.some.injEq, exists_eq_left', exists_eq_left, exists_and_left, V.int.injEq, V.bl.injEq, V.ref.injEq, V.str.injEq, List.cons.injEq, and_true, true_and, List.nil_append, List.cons_append, List.append_nil, reduceCtorEq, false_and, exists_false, or_false, false_or, and_false, Int.reduceNeg, decide_eq_true_eq, Bool.not_eq_true', decide_eq_false_iff_not, and_assoc, tYes, ↓reduceIte, wipe, Bool.false_eq_true, Bool.true_eq_false, cxOf, false_implies, true_implies, implies_true, forall_const]
    exact ⟨cmr (by decide) (by decide), cmr (by omega) (by omega), by decide, Int.emod_nonneg _ (by decide), Int.emod_lt_of_pos _ (by decide), s.trans (Same.new hT)⟩
  · rintro z h ⟨t, v, u, rfl, t0, t1, s⟩
    simp only [tSeq, tAsg, tDrop, tRet, tRetN, tIfS, tNext, tTest, tB, tNot, tAnd, tOr, tChain, tIf, tAndV, tOrV, tNotV, tOp, tUn, tCB, tCons, tNil, tVar, tC, tCall, tCallS, gName, rI, rI0, rU, rEq, rNe, tTup, tLst, gSub, rSetL, rIxL, rIxT, L2.start, List.map_cons, List.map_nil, List.length_cons, List.length_nil, Nat.reduceAdd, Nat.reduceSub, List.replicate_succ, List.replicate_zero, List.getElem?_cons_zero, List.getElem?_cons_succ, List.set_cons_zero, List.set_cons_succ, Option.some.injEq, exists_eq_left', exists_eq_left, exists_and_left, V.int.injEq, V.bl.injEq, V.ref.injEq, V.str.injEq, List.cons.injEq, and_true, true_and, List.nil_append, List.cons_append, List.append_nil, reduceCtorEq, false_and, exists_false, or_false, false_or, and_false, Int.reduceNeg, decide_eq_true_eq, Bool.not_eq_true', decide_eq_false_iff_not, and_assoc, tYes, ↓reduceIte, wipe, Bool.false_eq_true, Bool.true_eq_false, cxOf, false_implies, true_implies, implies_true, forall_const]
    refine ⟨_, rfl, a, rfl, ⟨_, s.seq hS⟩, fun D hD => lc_list (K := K) (a := a) (xs := ns.map V.int) (fun i h' => Same h h' ∧ h' D = some (.lst ((ns.take i).map fun c => V.int (if c < 0 then -c else c)))) ⟨Same.new hD, upd_same⟩ (fun i h' _ ⟨s', _⟩ => (s.trans s').seq hS) ?_ ?_⟩
    · rintro i y h' hi ⟨s', e'⟩
      obtain ⟨c, hc, rfl⟩ := nat_map hi
      have hil := (List.getElem?_eq_some_iff.mp hc).1
      simp only [tSeq, tAsg, tDrop, tRet, tRetN, tIfS, tNext, tTest, tB, tNot, tAnd, tOr, tChain, tIf, tAndV, tOrV, tNotV, tOp, tUn, tCB, tCons, tNil, tVar, tC, tCall, tCallS, gName, rI, rI0, rU, rEq, rNe, tTup, tLst, gSub, rSetL, rIxL, rIxT, L2.start, List.map_cons, List.map_nil, List.length_cons, List.length_nil, Nat.reduceAdd, Nat.reduceSub, List.replicate_succ, List.replicate_zero, List.getElem?_cons_zero, List.getElem?_cons_succ, List.set_cons_zero, List.set_cons_succ, Option.some.injEq, exists_eq_left', exists_eq_left, exists_and_left, V.int.injEq, V.bl.injEq, V.ref.injEq, V.str.injEq, List.cons.injEq, and_true, true_and, List.nil_append, List.cons_append, List.append_nil, reduceCtorEq, false_and, exists_false, or_false, false_or, and_false, Int.reduceNeg, decide_eq_true_eq, Bool.not_eq_true', decide_eq_false_iff_not, and_assoc, tYes, ↓reduceIte, wipe, Bool.false_eq_true, Bool.true_eq_false, cxOf, false_implies, true_implies, implies_true, forall_const]
      refine ⟨_, e', by rw [List.length_map, List.length_take]; exact small1000 (by omega), fun b o e => ?_, by rw [upd_same, abs_take hc]⟩
      rw [upd_ne (ne_of_none e hD)]
      exact s' b o e
    · rintro h' ⟨s', e'⟩
      refine ⟨by decide, fun p hp => q p D _ (s.trans (s'.trans (Same.new hp))) ⟨ns.map fun c => if c < 0 then -c else c, 0, 0, t, upd_same, ?_, by rw [List.length_map]; exact hn, ?_, by omega, by omega, by omega, t0, t1⟩⟩
      · rw [upd_ne (ne_of_none e' hp), e', List.length_map, List.take_length, List.map_map]
        rfl
      · intro c hc
        obtain ⟨b, _, rfl⟩ := List.mem_map.mp hc
        split <;> omega
abbrev sp_l_draw (_ : PySem.W.Frag) : Sp := spDraw
theorem len_l_draw {vs H Q E} (h : sp_l_draw K vs H Q E) : vs.length = 2 := by
  obtain ⟨_, _, _, rfl, _⟩ := h; rfl
theorem ok_l_draw {f : Addr} {fd : FuncData} (F : Fun K "_law_draw" "_law_draw" s_l_draw f fd) (T : Txt K mg cBadPool cBadPeople) : FnOk P w K mg base CX0 2 f fd ps_l_draw (sp_l_draw K) := by
  obtain ⟨f_l_mix, fd_l_mix, F_l_mix, m_l_mix, b_l_mix⟩ := T.d_l_mix
  have G_l_mix : FnOk P w K mg base CX0 1 f_l_mix fd_l_mix ps_l_mix (sp_l_mix K) := ok_l_mix F_l_mix T
  refine F.ok (k := 1) sc_l_draw (fun vs H Q E h => len_l_draw h) (fun cdv A outer s H vs Q E hr h => ?_)
  refine ⟨_, (pss_cons (ps_if (PW.pt (pw_and (pt_cmpR op_eq (pe_ix ix_list (pv 0) pe_int (fun _ _ => rfl)) pe_int (nomark _)) (pw_and1 (pt_cmpR op_lt (pe_ix ix_list (pv 0) pe_int (fun _ _ => rfl)) (pe_callB call_len_seq (by rfl) T.n_len (by decide +kernel) (pa_cons (pe_ix ix_list (pv 0) pe_int (fun _ _ => rfl)) pa_nil)) (nomark _))))) (pss_cons (ps_set (i := 2) sc_l_draw.nd rfl (Or.inl rfl) (pe_ix ix_list (pe_ix ix_list (pv 0) pe_int (fun _ _ => rfl)) (pe_ix ix_list (pv 0) pe_int (fun _ _ => rfl)) (fun _ _ => rfl)))
      (pss_cons (ps_asg (pe_op op_add (pe_ix ix_list (pv 0) pe_int (fun _ _ => rfl)) pe_int) (pg_sub (pv 0) pe_int set_list))
      (pss_cons (ps_if (pt_cmpR op_lt (pv 2) (pe_op op_pow pe_int pe_int) (nomark _)) (pss_one (ps_ret (pe_op op_mod (pe_callTy call_int1 (by rfl) T.n_int (by decide +kernel) (pa_cons (pe_call G_l_mix (hr.mono (by decide)) (by rfl) m_l_mix F_l_mix.kp b_l_mix .nil pass0 (pa_cons (pe_op op_mod (pe_callTy call_int1 (by rfl) T.n_int (by decide +kernel) (pa_cons (pv 2) pa_nil)) pe_int) (pa_cons (pe_ix ix_list (pv 0) pe_int (fun _ _ => rfl)) pa_nil))) pa_nil)) (pv 1)))) pss_nil)
      (pss_one (ps_asg (pv 2) (pg_sub (pv 0) pe_int set_list)))))) pss_nil)
      (pss_cons (ps_if (pt_cmpR op_gt (pe_ix ix_list (pv 0) pe_int (fun _ _ => rfl)) pe_int (nomark _)) (pss_cons (ps_set (i := 3) sc_l_draw.nd rfl (Or.inl rfl) (pe_ix ix_list (pv 0) pe_int (fun _ _ => rfl)))
      (pss_cons (ps_asg (pe_op op_fdivW (pv 3) (pv 1)) (pg_sub (pv 0) pe_int set_list))
      (pss_one (ps_ret (pe_op op_mod (pe_callTy call_int1 (by rfl) T.n_int (by decide +kernel) (pa_cons (pv 3) pa_nil)) (pv 1)))))) pss_nil)
      (pss_cons (ps_asg (pe_op op_mod (pe_callTy call_int1 (by rfl) T.n_int (by decide +kernel) (pa_cons (pe_op op_add (pe_ix ix_list (pv 0) pe_int (fun _ _ => rfl)) pe_int) pa_nil)) pe_int) (pg_sub (pv 0) pe_int set_list))
      (pss_one (ps_ret (pe_op op_mod (pe_callTy call_int1 (by rfl) T.n_int (by decide +kernel) (pa_cons (pe_call G_l_mix (hr.mono (by decide)) (by rfl) m_l_mix F_l_mix.kp b_l_mix .nil pass0 (pa_cons (pe_ix ix_list (pv 0) pe_int (fun _ _ => rfl)) (pa_cons (pe_ix ix_list (pv 0) pe_int (fun _ _ => rfl)) pa_nil))) pa_nil)) (pv 1))))))), ?_⟩
  obtain ⟨h, q, m, rfl, hh, m0, m1, k⟩ := h
  obtain ⟨cs, i, r, t, h1, h2, cl, c0, i0, il, r0, t0, t1⟩ := hh.ex
  simp only [tSeq, tAsg, tDrop, tRet, tRetN, tIfS, tNext, tTest, tB, tNot, tAnd, tOr, tChain, tIf, tAndV, tOrV, tNotV, tOp, tUn, tCB, tCons, tNil, tVar, tC, tCall, tCallS, gName, rI, rI0, rU, rEq, rNe, tTup, tLst, gSub, rSetL, rIxL, rIxT, L2.start, List.map_cons, List.map_nil, List.length_cons, List.length_nil, Nat.reduceAdd, Nat.reduceSub, List.replicate_succ, List.replicate_zero, List.getElem?_cons_zero, List.getElem?_cons_succ, List.set_cons_zero, List.set_cons_succ, Option.some.injEq, exists_eq_left', exists_eq_left, exists_and_left, V.int.injEq, V.bl.injEq, V.ref.injEq, V.str.injEq, List.cons.injEq, and_true, true_and, List.nil_append, List.cons_append, List.append_nil, reduceCtorEq, false_and, exists_false, or_false, false_or, and_false, Int.reduceNeg, decide_eq_true_eq, Bool.not_eq_true', decide_eq_false_iff_not, and_assoc, tYes, ↓reduceIte, wipe, Bool.false_eq_true, Bool.true_eq_false, cxOf, false_implies, true_implies, implies_true, forall_const, spMix]
  refine ⟨_, SqL.of h1, _, rfl, rfl, ?_⟩
  split
  · rename_i e
    obtain rfl : r = 0 := by injection e
    refine ⟨_, SqL.of h1, _, rfl, _, SqL.of h1, _, rfl, q, rfl, _, .inl (SqL.of h2), i, rfl, ?_⟩
    split
    · rename_i hi
      obtain ⟨j, rfl⟩ := Int.eq_ofNat_of_zero_le i0
      have hj : j < cs.length := by
        rw [List.length_map] at hi
        omega
      have hc' : (cs.map V.int)[j]? = some (.int cs[j]) := by rw [List.getElem?_map, List.getElem?_eq_getElem hj]; rfl
      have cj : 0 ≤ cs[j] := c0 _ (List.getElem_mem hj)
      have e18 : (10 : Int) ^ Int.toNat 18 = 1000000000000000000 := by decide
      refine ⟨_, SqL.of h1, _, rfl, _, SqL.of h1, _, rfl, q, rfl, _, _, rfl, SqL.of h2, _, atI_nat hc', _, SqL.of h1, _, rfl, _, rfl, _, h1, 1, rfl, ⟨by decide, by decide, by decide⟩, cs[j], rfl, ?_⟩
      split
      · refine .inl ⟨cs[j], rfl, by decide, _, SqL.of upd_same, _, rfl, _, rfl, Int.emod_nonneg _ (by decide), Int.lt_trans (Int.emod_lt_of_pos _ (by decide)) (by decide), by omega, by omega, fun r' hr' => ⟨m0, k _ _ (Int.emod_nonneg _ (by omega)) (Int.emod_lt_of_pos _ m0) ?_ But.upd⟩⟩
        exact ⟨cs, (j : Int) + 1, 0, t, upd_same, by rw [upd_ne hh.ne.symm]; exact h2, cl, c0, by omega, by omega, by omega, t0, t1⟩
      · rename_i e2
        rw [e18] at e2
        refine ⟨_, upd_same, 2, rfl, _, SqL.of upd_same, _, rfl, cs[j], rfl, ?_⟩
        rw [if_pos (by omega)]
        refine ⟨_, SqL.of upd_same, _, rfl, cs[j], rfl, cdw m0 m1, _, upd_same, 2, rfl, .inl ⟨cs[j], rfl, m0, k _ _ (Int.emod_nonneg _ (by omega)) (Int.emod_lt_of_pos _ m0) ?_ But.upd.then.then⟩⟩
        exact ⟨cs, (j : Int) + 1, cs[j] / m, t, upd_same, by rw [upd_ne hh.ne.symm, upd_ne hh.ne.symm, upd_ne hh.ne.symm]; exact h2, cl, c0, by omega, by omega, Int.ediv_nonneg cj (by omega), t0, t1⟩
    · rename_i hi
      refine ⟨_, SqL.of h1, _, rfl, 0, rfl, ?_⟩
      rw [if_neg (by decide)]
      refine ⟨_, SqL.of h1, _, rfl, t, rfl, by decide, _, h1, 3, rfl, _, SqL.of upd_same, _, rfl, _, SqL.of upd_same, _, rfl, _, rfl, _, rfl, Int.emod_nonneg _ (by decide), Int.lt_trans (Int.emod_lt_of_pos _ (by decide)) (by decide), by omega, by omega,
        fun r' hr' => ⟨m0, k _ _ (Int.emod_nonneg _ (by omega)) (Int.emod_lt_of_pos _ m0) ?_ But.upd⟩⟩
      exact ⟨cs, i, 0, (t + 1) % 2147483629, upd_same, by rw [upd_ne hh.ne.symm]; exact h2, cl, c0, by omega, by omega, by omega, Int.emod_nonneg _ (by decide), Int.emod_lt_of_pos _ (by decide)⟩
  · rename_i e
    have e' : r ≠ 0 := fun z => e (by rw [z])
    refine ⟨_, SqL.of h1, _, rfl, r, rfl, ?_⟩
    rw [if_pos (by omega)]
    refine ⟨_, SqL.of h1, _, rfl, r, rfl, cdw m0 m1, _, h1, 2, rfl, .inl ⟨r, rfl, m0, k _ _ (Int.emod_nonneg _ (by omega)) (Int.emod_lt_of_pos _ m0) ?_ But.upd⟩⟩
    exact ⟨cs, i, r / m, t, upd_same, by rw [upd_ne hh.ne.symm]; exact h2, cl, c0, by omega, by omega, Int.ediv_nonneg r0 (by omega), t0, t1⟩
end
end My
set_option Elab.async false
set_option linter.all false
set_option maxRecDepth 100000
set_option maxHeartbeats 4000000
namespace My
open PySem PySem.Spec PyProof.Rows L2 Gen
section
variable {P : Program} {w : World} {K : PySem.W.Frag} {mg : Str → Option Value} {base : Heap} { cBadPool cBadPeople : Addr}
def sp_mending_coins (_ : PySem.W.Frag) (cB cP : Addr) : Sp := fun vs H Q E => ∃ x y : V, vs = [x, y] ∧ Arg H x ∧ Plain H y ∧
  (¬ FewRow H x → ∀ H' d, Same H H' → H' d = none → E (.ref cB) (some d) (upd H' d (bad2 0 "many"))) ∧
  (∀ a xs (i : Nat) y, x = .ref a → Row H a xs → xs.length ≤ 12 → (∀ j z, j < i → xs[j]? = some z → whole z 1 1000000000 = true) → xs[i]? = some y → whole y 1 1000000000 = false → ∀ H' d, Same H H' → H' d = none → E (.ref cB) (some d) (upd H' d (bad2 i "coin"))) ∧
  (∀ (a : Addr) (ns : List Int), x = .ref a → Row H a (ns.map V.int) → ns.length ≤ 12 → (∀ n, n ∈ ns → 1 ≤ n ∧ n ≤ 1000000000) → whole y 2 5 = false → ∀ H', Same H H' → E (.ref cP) none H') ∧
  ∀ (a : Addr) (ns : List Int) (p : Int), x = .ref a → y = .int p → Row H a (ns.map V.int) → ns.length ≤ 12 → (∀ n, n ∈ ns → 1 ≤ n ∧ n ≤ 1000000000) → 2 ≤ p → p ≤ 5 →
    ∀ (H' : Hp) (b : Addr) (ms : List Int), Same H H' → H' b = some (.tup ((mL p ms).map V.int)) → ms.Perm ns → ms.Pairwise (· ≤ ·) → Q (.ref b) H'
theorem len_mending_coins {vs H Q E} (h : sp_mending_coins K cBadPool cBadPeople vs H Q E) : vs.length = 2 := by
  obtain ⟨_, _, rfl, _⟩ := h; rfl
theorem ok_mending_coins {f : Addr} {fd : FuncData} (F : Fun K "mending_coins" "mending_coins" s_mending_coins f fd) (T : Txt K mg cBadPool cBadPeople) : FnOk P w K mg base (L2.CX P w) 4 f fd ps_mending_coins (sp_mending_coins K cBadPool cBadPeople) := by
  obtain ⟨f_check_pool, fd_check_pool, F_check_pool, m_check_pool, b_check_pool⟩ := T.d_check_pool
  have G_check_pool : FnOk P w K mg base (L2.CX P w) 3 f_check_pool fd_check_pool ps_check_pool (sp_check_pool K cBadPool) := ok_check_pool F_check_pool T
  obtain ⟨f_check_people, fd_check_people, F_check_people, m_check_people, b_check_people⟩ := T.d_check_people
  have G_check_people : FnOk P w K mg base (L2.CX P w) 3 f_check_people fd_check_people ps_check_people (sp_check_people K cBadPeople) := ok_check_people F_check_people T
  obtain ⟨f_room_at, fd_room_at, F_room_at, m_room_at, b_room_at⟩ := T.d_room_at
  have G_room_at : FnOk P w K mg base CX0 1 f_room_at fd_room_at ps_room_at (sp_room_at K) := ok_room_at F_room_at T
  obtain ⟨u_LEAST_PEOPLE, c_LEAST_PEOPLE, r_LEAST_PEOPLE⟩ := T.c_LEAST_PEOPLE
  refine F.okX (k := 3) sc_mending_coins (fun vs H Q E h => len_mending_coins h) (fun cdv A outer s H vs Q E hr h => ?_)
  refine ⟨_, (pss_cons (ps_set (i := 2) sc_mending_coins.nd rfl (Or.inl rfl) (pe_call G_check_pool (hr.mono (by decide)) (by rfl) m_check_pool F_check_pool.kp b_check_pool .nil (passes_call (takes_of rfl rfl rfl rfl) fun _ _ _ _ z => z) (pa_cons (pv 0) pa_nil)))
      (pss_cons (ps_expr (pe_call G_check_people (hr.mono (by decide)) (by rfl) m_check_people F_check_people.kp b_check_people .nil (passes_call (takes_of rfl rfl rfl rfl) fun _ _ _ _ z => z) (pa_cons (pv 1) (pa_cons (pe_glob rfl c_LEAST_PEOPLE r_LEAST_PEOPLE) pa_nil))))
      (pss_cons (ps_set (i := 3) sc_mending_coins.nd rfl (Or.inl rfl) (pe_lst pa_nil))
      (pss_cons (ps_set (i := 4) sc_mending_coins.nd rfl (Or.inl rfl) pe_int)
      (pss_cons (ps_for (passes_of rfl) rfl (pi_tup (pv 2)) (pg_name (i := 5) sc_mending_coins.nd rfl (Or.inl rfl))
      (pss_cons (ps_while (passes_of rfl) (pt_cmpR op_gt (pv 5) (pe_call G_room_at (hr.mono (by decide)) (by rfl) m_room_at F_room_at.kp b_room_at .nil pass0 (pa_cons (pv 4) (pa_cons (pv 1) pa_nil))) (nomark _))
      (pss_cons (ps_expr (pe_bm PySem.F.plainAttrs_list PySem.F.slot_list_append PySem.F.type_list_append mt_append (pv 3) (pa_cons (pe_call G_room_at (hr.mono (by decide)) (by rfl) m_room_at F_room_at.kp b_room_at .nil pass0 (pa_cons (pv 4) (pa_cons (pv 1) pa_nil))) pa_nil)))
      (pss_one (ps_set (i := 4) sc_mending_coins.nd rfl (Or.inl rfl) (pe_op op_add (pv 4) (pe_ix ix_list (pv 3) (pe_un un_neg pe_int) (fun _ _ => rfl)))))))
      (pss_one (ps_set (i := 4) sc_mending_coins.nd rfl (Or.inl rfl) (pe_op op_add (pv 4) (pv 5))))))
      (pss_one (ps_ret (pe_callTy call_tuple_of (by rfl) T.n_tuple (by decide +kernel) (pa_cons (pv 3) pa_nil))))))))), ?_⟩
  obtain ⟨x, y, rfl, hx, hy, q1, q2, q3, q4⟩ := h
  simp only [tSeq, tAsg, tDrop, tRet, tRetN, tIfS, tNext, tTest, tB, tNot, tAnd, tOr, tChain, tIf, tAndV, tOrV, tNotV, tOp, tUn, tCB, tCons, tNil, tVar, tC, tCall, tCallS, gName, rI, rI0, rU, rEq, rNe, tTup, tLst, gSub, rSetL, rIxL, rIxT, L2.start, List.map_cons, List.map_nil, List.length_cons, List.length_nil, Nat.reduceAdd, Nat.reduceSub, List.replicate_succ, List.replicate_zero, List.getElem?_cons_zero, List.getElem?_cons_succ, List.set_cons_zero, List.set_cons_succ, Option.some.injEq, exists_eq_left', exists_eq_left, exists_and_left, V.int.injEq, V.bl.injEq, V.ref.injEq, V.str.injEq, List.cons.injEq, and_true, true_and, List.nil_append, List.cons_append, List.append_nil, reduceCtorEq, false_and, exists_false, or_false, false_or, and_false, Int.reduceNeg, decide_eq_true_eq, Bool.not_eq_true', decide_eq_false_iff_not, and_assoc, tYes, ↓reduceIte, wipe, Bool.false_eq_true, Bool.true_eq_false, cxOf, false_implies, true_implies, implies_true, forall_const, sp_check_pool, sp_check_people, sp_room_at]
  refine ⟨hx, q1, q2, fun a ns e hr hl nb H1 b ms s hb p1 p2 => ⟨hy.same s, fun w1 => ?_, fun w0 => q3 a ns e hr hl nb w0 H1 s⟩⟩
  obtain ⟨p, rfl, p0, p5⟩ := whole_of w1
  have mb : ∀ c, c ∈ ms → 1 ≤ c ∧ c ≤ 1000000000 := fun c hc => nb c (p1.subset hc)
  have ml : ms.length ≤ 12 := by rw [p1.length_eq]; exact hl
  refine ⟨Nat.zero_le _, fun q hq => ⟨_, rfl, b, rfl, ⟨_, SqT.of ((Same.new hq) _ _ hb)⟩, for_tup (K := K) (a := b) (xs := ms.map V.int)
    (fun i z h => ∃ v, z = [some x, some (.int p), some (.ref b), some (.ref q), some (.int (mA p (ms.take i))), v] ∧ Same H1 h ∧ h q = some (.lst ((mL p (ms.take i)).map V.int)) ∧ (mL p (ms.take i)).length ≤ 400 * i)
    ⟨none, rfl, Same.new hq, upd_same, Nat.zero_le _⟩ (fun i z h _ ⟨_, _, s2, _⟩ => SqT.of (s2 _ _ hb)) ?_ ?_⟩⟩
  · rintro i y z h hi ⟨v, rfl, s2, hL, hn⟩
    obtain ⟨c, hc, rfl⟩ := nat_map hi
    have ilt : i < ms.length := (List.getElem?_eq_some_iff.mp hc).1
    have cb := mb c (List.mem_of_getElem? hc)
    have tk : ms.take (i + 1) = ms.take i ++ [c] := by rw [List.take_add_one, hc]; rfl
    have a0 := mA_nonneg p0 (cs := ms.take i) fun x hx => (mb x (List.mem_of_mem_take hx)).1
    have ok := stp_ok p0 p5 a0 cb.2
    have le := stp_le (p := p) (c := c) 400 (mA p (ms.take i))
    rw [tk, mA_snoc, mL_snoc]
    generalize mA p (ms.take i) = A0 at a0 ok le ⊢
    generalize mL p (ms.take i) = L0 at hL hn ⊢
    refine while_by (fun z h' => ∃ j : Nat, j ≤ stp p c 400 A0 ∧ z = [some x, some (.int p), some (.ref b), some (.ref q), some (.int (grow p j A0)), some (.int c)] ∧ Same H1 h' ∧ h' q = some (.lst ((L0 ++ puts p A0 j).map V.int)))
      (fun z h' => match h' q with
        | some (.lst xs) => L0.length + 401 - xs.length
        | _ => 0) ⟨0, Nat.zero_le _, rfl, s2, by rw [show puts p A0 0 = [] from rfl, List.append_nil]; exact hL⟩ ?_ ?_
    · rintro z h' ⟨j, hj, rfl, s3, hL3⟩
      simp only [tSeq, tAsg, tDrop, tRet, tRetN, tIfS, tNext, tTest, tB, tNot, tAnd, tOr, tChain, tIf, tAndV, tOrV, tNotV, tOp, tUn, tCB, tCons, tNil, tVar, tC, tCall, tCallS, gName, rI, rI0, rU, rEq, rNe, tTup, tLst, gSub, rSetL, rIxL, rIxT, L2.start, List.map_cons, List.map_nil, List.length_cons, List.length_nil, Nat.reduceAdd, Nat.reduceSub, List.replicate_succ, List.replicate_zero, List.getElem?_cons_zero, List.getElem?_cons_succ, List.set_cons_zero, List.set_cons_succ, Option.some.injEq, exists_eq_left', exists_eq_left, exists_and_left, V.int.injEq, V.bl.injEq, V.ref.injEq, V.str.injEq, List.cons.injEq, and_true, true_and, List.nil_append, List.cons_append, List.append_nil, reduceCtorEq, false_and, exists_false, or_false, false_or, and_false, Int.reduceNeg, decide_eq_true_eq, Bool.not_eq_true', decide_eq_false_iff_not, and_assoc, tYes, ↓reduceIte, wipe, Bool.false_eq_true, Bool.true_eq_false, cxOf, false_implies, true_implies, implies_true, forall_const, sp_room_at]
      refine ⟨p0, p5, ?_⟩
      split
      · rename_i lt
        have hj2 : j < stp p c 400 A0 := by
          rcases Nat.lt_or_ge j (stp p c 400 A0) with g | g
          · exact g
          · have e : j = stp p c 400 A0 := Nat.le_antisymm hj g
            rw [e] at lt
            omega
        have ln : ((L0 ++ puts p A0 j).map V.int).length = L0.length + j := by rw [List.length_map, List.length_append, puts_len]
        simp only [tSeq, tAsg, tDrop, tRet, tRetN, tIfS, tNext, tTest, tB, tNot, tAnd, tOr, tChain, tIf, tAndV, tOrV, tNotV, tOp, tUn, tCB, tCons, tNil, tVar, tC, tCall, tCallS, gName, rI, rI0, rU, rEq, rNe, tTup, tLst, gSub, rSetL, rIxL, rIxT, L2.start, List.map_cons, List.map_nil, List.length_cons, List.length_nil, Nat.reduceAdd, Nat.reduceSub, List.replicate_succ, List.replicate_zero, List.getElem?_cons_zero, List.getElem?_cons_succ, List.set_cons_zero, List.set_cons_succ, Option.some.injEq, exists_eq_left', exists_eq_left, exists_and_left, V.int.injEq, V.bl.injEq, V.ref.injEq, V.str.injEq, List.cons.injEq, and_true, true_and, List.nil_append, List.cons_append, List.append_nil, reduceCtorEq, false_and, exists_false, or_false, false_or, and_false, Int.reduceNeg, decide_eq_true_eq, Bool.not_eq_true', decide_eq_false_iff_not, and_assoc, tYes, ↓reduceIte, wipe, Bool.false_eq_true, Bool.true_eq_false, cxOf, false_implies, true_implies, implies_true, forall_const, tBM, rAppend, rIxL]
        refine ⟨.inl ⟨rfl, _, SqL.of hL3⟩, _, p, rfl, p0, p5, _, hL3, by rw [ln]; exact Nat.lt_of_le_of_lt (show L0.length + j ≤ 10000 by omega) (by decide), _, SqL.of upd_same, _, atI_last _ _, _, rfl, ⟨j + 1, by omega, rfl, fun b o e => ?_, ?_⟩, ?_⟩
        · rw [upd_ne (ne_of_none e hq)]
          exact s3 b o e
        · rw [upd_same, puts_succ, ← List.append_assoc]
          simp only [List.map_append, List.map_cons, List.map_nil]
        · rw [upd_same, hL3]
          show L0.length + 401 - (List.map V.int (L0 ++ puts p A0 j) ++ [_]).length < L0.length + 401 - (List.map V.int (L0 ++ puts p A0 j)).length
          rw [List.length_append, ln]
          show L0.length + 401 - (L0.length + j + 1) < L0.length + 401 - (L0.length + j)
          omega
      · rename_i ge
        have e : j = stp p c 400 A0 := by
          rcases Nat.lt_or_ge j (stp p c 400 A0) with g | g
          · exact absurd (stp_lo 400 A0 j g) ge
          · exact Nat.le_antisymm hj g
        subst e
        simp only [tSeq, tAsg, tDrop, tRet, tRetN, tIfS, tNext, tTest, tB, tNot, tAnd, tOr, tChain, tIf, tAndV, tOrV, tNotV, tOp, tUn, tCB, tCons, tNil, tVar, tC, tCall, tCallS, gName, rI, rI0, rU, rEq, rNe, tTup, tLst, gSub, rSetL, rIxL, rIxT, L2.start, List.map_cons, List.map_nil, List.length_cons, List.length_nil, Nat.reduceAdd, Nat.reduceSub, List.replicate_succ, List.replicate_zero, List.getElem?_cons_zero, List.getElem?_cons_succ, List.set_cons_zero, List.set_cons_succ, Option.some.injEq, exists_eq_left', exists_eq_left, exists_and_left, V.int.injEq, V.bl.injEq, V.ref.injEq, V.str.injEq, List.cons.injEq, and_true, true_and, List.nil_append, List.cons_append, List.append_nil, reduceCtorEq, false_and, exists_false, or_false, false_or, and_false, Int.reduceNeg, decide_eq_true_eq, Bool.not_eq_true', decide_eq_false_iff_not, and_assoc, tYes, ↓reduceIte, wipe, Bool.false_eq_true, Bool.true_eq_false, cxOf, false_implies, true_implies, implies_true, forall_const]
        exact ⟨s3, hL3, by rw [List.length_append, puts_len]; omega⟩
    · rintro z h Q1 Q2 f ⟨v, e1, v2, e2, v3, e3, t, p', e4, h2, h5, i, j, e5, e6, k, ek, q⟩
      exact ⟨v, e1, v2, e2, v3, e3, t, p', e4, h2, h5, i, j, e5, e6, k, ek, f _ _ q⟩
  · rintro z h ⟨v, rfl, s2, hL, hn⟩
    rw [List.length_map, List.take_length] at hL hn
    simp only [tSeq, tAsg, tDrop, tRet, tRetN, tIfS, tNext, tTest, tB, tNot, tAnd, tOr, tChain, tIf, tAndV, tOrV, tNotV, tOp, tUn, tCB, tCons, tNil, tVar, tC, tCall, tCallS, gName, rI, rI0, rU, rEq, rNe, tTup, tLst, gSub, rSetL, rIxL, rIxT, L2.start, List.map_cons, List.map_nil, List.length_cons, List.length_nil, Nat.reduceAdd, Nat.reduceSub, List.replicate_succ, List.replicate_zero, List.getElem?_cons_zero, List.getElem?_cons_succ, List.set_cons_zero, List.set_cons_succ, Option.some.injEq, exists_eq_left', exists_eq_left, exists_and_left, V.int.injEq, V.bl.injEq, V.ref.injEq, V.str.injEq, List.cons.injEq, and_true, true_and, List.nil_append, List.cons_append, List.append_nil, reduceCtorEq, false_and, exists_false, or_false, false_or, and_false, Int.reduceNeg, decide_eq_true_eq, Bool.not_eq_true', decide_eq_false_iff_not, and_assoc, tYes, ↓reduceIte, wipe, Bool.false_eq_true, Bool.true_eq_false, cxOf, false_implies, true_implies, implies_true, forall_const]
    exact ⟨_, .inl ⟨SqL.of hL, fun l hl2 => q4 a ns p e rfl hr hl nb p0 p5 _ l ms (s.trans (s2.trans (Same.new hl2))) upd_same p1 p2⟩⟩
end
end My
set_option Elab.async false
set_option linter.all false
set_option maxRecDepth 100000
set_option maxHeartbeats 4000000
namespace My
open PySem PySem.Spec PyProof.Rows L2 Gen
section
variable {P : Program} {w : World} {K : PySem.W.Frag} {mg : Str → Option Value} {base : Heap} { cBadPool cBadPeople : Addr}
def sp_l_pick (_ : PySem.W.Frag) : Sp := fun vs H Q _ => ∃ (h q l : Addr) (xs : List V), vs = [.ref h, .ref l] ∧ HandAt H h q ∧ H l = some (.lst xs) ∧ 0 < xs.length ∧ xs.length ≤ 1000 ∧ l ≠ h ∧
  ∀ v H', v ∈ xs → HandAt H' h q → But h H H' → Q v H'
theorem len_l_pick {vs H Q E} (h : sp_l_pick K vs H Q E) : vs.length = 2 := by
  obtain ⟨_, _, _, _, rfl, _⟩ := h; rfl
theorem ok_l_pick {f : Addr} {fd : FuncData} (F : Fun K "_law_pick" "_law_pick" s_l_pick f fd) (T : Txt K mg cBadPool cBadPeople) : FnOk P w K mg base CX0 3 f fd ps_l_pick (sp_l_pick K) := by
  obtain ⟨f_l_draw, fd_l_draw, F_l_draw, m_l_draw, b_l_draw⟩ := T.d_l_draw
  have G_l_draw : FnOk P w K mg base CX0 2 f_l_draw fd_l_draw ps_l_draw (sp_l_draw K) := ok_l_draw F_l_draw T
  refine F.ok (k := 2) sc_l_pick (fun vs H Q E h => len_l_pick h) (fun cdv A outer s H vs Q E hr h => ?_)
  refine ⟨_, (pss_one (ps_ret (pe_ix ix_list (pv 1) (pe_call G_l_draw (hr.mono (by decide)) (by rfl) m_l_draw F_l_draw.kp b_l_draw .nil pass0 (pa_cons (pv 0) (pa_cons (pe_callB call_len_seq (by rfl) T.n_len (by decide +kernel) (pa_cons (pv 1) pa_nil)) pa_nil))) (fun _ _ => rfl)))), ?_⟩
  obtain ⟨h, q, l, xs, rfl, hh, hl, l0, l1, ne, k⟩ := h
  simp only [tSeq, tAsg, tDrop, tRet, tRetN, tIfS, tNext, tTest, tB, tNot, tAnd, tOr, tChain, tIf, tAndV, tOrV, tNotV, tOp, tUn, tCB, tCons, tNil, tVar, tC, tCall, tCallS, gName, rI, rI0, rU, rEq, rNe, tTup, tLst, gSub, rSetL, rIxL, rIxT, L2.start, List.map_cons, List.map_nil, List.length_cons, List.length_nil, Nat.reduceAdd, Nat.reduceSub, List.replicate_succ, List.replicate_zero, List.getElem?_cons_zero, List.getElem?_cons_succ, List.set_cons_zero, List.set_cons_succ, Option.some.injEq, exists_eq_left', exists_eq_left, exists_and_left, V.int.injEq, V.bl.injEq, V.ref.injEq, V.str.injEq, List.cons.injEq, and_true, true_and, List.nil_append, List.cons_append, List.append_nil, reduceCtorEq, false_and, exists_false, or_false, false_or, and_false, Int.reduceNeg, decide_eq_true_eq, Bool.not_eq_true', decide_eq_false_iff_not, and_assoc, tYes, ↓reduceIte, wipe, Bool.false_eq_true, Bool.true_eq_false, cxOf, false_implies, true_implies, implies_true, forall_const, spDraw]
  refine ⟨_, .inl (SqL.of hl), q, hh, by omega, by omega, fun d H' d0 d1 hh' bt => ?_⟩
  obtain ⟨j, rfl⟩ := Int.eq_ofNat_of_zero_le d0
  have hj : j < xs.length := by omega
  exact ⟨xs, SqL.of (bt _ _ hl ne), xs[j], atI_nat (List.getElem?_eq_getElem hj), k _ _ (List.getElem_mem hj) hh' bt⟩
def sp_l_is_whole (_ : PySem.W.Frag) : Sp := fun vs H Q _ => ∃ x : V, vs = [x] ∧ Plain H x ∧ Q (.bl (isI x)) H
theorem len_l_is_whole {vs H Q E} (h : sp_l_is_whole K vs H Q E) : vs.length = 1 := by
  obtain ⟨_, rfl, _⟩ := h; rfl
theorem ok_l_is_whole {f : Addr} {fd : FuncData} (F : Fun K "_law_is_whole" "_law_is_whole" s_l_is_whole f fd) (T : Txt K mg cBadPool cBadPeople) : FnOk P w K mg base CX0 1 f fd ps_l_is_whole (sp_l_is_whole K) := by
  refine F.ok (k := 0) sc_l_is_whole (fun vs H Q E h => len_l_is_whole h) (fun cdv A outer s H vs Q E hr h => ?_)
  refine ⟨_, (pss_one (ps_ret (pe_and (pe_callB call_isi (by rfl) T.n_isinstance (by decide +kernel) (pa_cons (pv 0) (pa_cons (pe_bltn (v := .ty "int") (by rfl) T.n_int (by decide +kernel) rfl) pa_nil))) (pe_one (pe_not (pe_callB call_isi (by rfl) T.n_isinstance (by decide +kernel) (pa_cons (pv 0) (pa_cons (pe_bltn (v := .ty "bool") (by rfl) T.n_bool (by decide +kernel) rfl) pa_nil)))))))), ?_⟩
  obtain ⟨x, rfl, hp, q⟩ := h
  simp only [tSeq, tAsg, tDrop, tRet, tRetN, tIfS, tNext, tTest, tB, tNot, tAnd, tOr, tChain, tIf, tAndV, tOrV, tNotV, tOp, tUn, tCB, tCons, tNil, tVar, tC, tCall, tCallS, gName, rI, rI0, rU, rEq, rNe, tTup, tLst, gSub, rSetL, rIxL, rIxT, L2.start, List.map_cons, List.map_nil, List.length_cons, List.length_nil, Nat.reduceAdd, Nat.reduceSub, List.replicate_succ, List.replicate_zero, List.getElem?_cons_zero, List.getElem?_cons_succ, List.set_cons_zero, List.set_cons_succ, Option.some.injEq, exists_eq_left', exists_eq_left, exists_and_left, V.int.injEq, V.bl.injEq, V.ref.injEq, V.str.injEq, List.cons.injEq, and_true, true_and, List.nil_append, List.cons_append, List.append_nil, reduceCtorEq, false_and, exists_false, or_false, false_or, and_false, Int.reduceNeg, decide_eq_true_eq, Bool.not_eq_true', decide_eq_false_iff_not, and_assoc, tYes, ↓reduceIte, wipe, Bool.false_eq_true, Bool.true_eq_false, cxOf, false_implies, true_implies, implies_true, forall_const]
  refine isi_int hp ?_
  cases x with
  | int i => exact ⟨true, rfl, iteT (isi_bool hp ⟨false, rfl, q⟩)⟩
  | bl i => exact ⟨true, rfl, iteT (isi_bool hp ⟨true, rfl, q⟩)⟩
  | _ => exact ⟨false, rfl, iteF q⟩
def sp_l_up (_ : PySem.W.Frag) : Sp := fun vs H Q _ => ∃ t p : Int, vs = [.int t, .int p] ∧ 2 ≤ p ∧ p ≤ 5 ∧ Q (.int ((t + p - 1) / p)) H
theorem len_l_up {vs H Q E} (h : sp_l_up K vs H Q E) : vs.length = 2 := by
  obtain ⟨_, _, rfl, _⟩ := h; rfl
theorem ok_l_up {f : Addr} {fd : FuncData} (F : Fun K "_law_up" "_law_up" s_l_up f fd) (T : Txt K mg cBadPool cBadPeople) : FnOk P w K mg base CX0 1 f fd ps_l_up (sp_l_up K) := by
  refine F.ok (k := 0) sc_l_up (fun vs H Q E h => len_l_up h) (fun cdv A outer s H vs Q E hr h => ?_)
  refine ⟨_, (pss_one (ps_ret (pe_op op_fdivW (pe_op op_sub (pe_op op_add (pv 0) (pv 1)) pe_int) (pv 1)))), ?_⟩
  obtain ⟨t, p, rfl, h2, h5, q⟩ := h
  simp only [tSeq, tAsg, tDrop, tRet, tRetN, tIfS, tNext, tTest, tB, tNot, tAnd, tOr, tChain, tIf, tAndV, tOrV, tNotV, tOp, tUn, tCB, tCons, tNil, tVar, tC, tCall, tCallS, gName, rI, rI0, rU, rEq, rNe, tTup, tLst, gSub, rSetL, rIxL, rIxT, L2.start, List.map_cons, List.map_nil, List.length_cons, List.length_nil, Nat.reduceAdd, Nat.reduceSub, List.replicate_succ, List.replicate_zero, List.getElem?_cons_zero, List.getElem?_cons_succ, List.set_cons_zero, List.set_cons_succ, Option.some.injEq, exists_eq_left', exists_eq_left, exists_and_left, V.int.injEq, V.bl.injEq, V.ref.injEq, V.str.injEq, List.cons.injEq, and_true, true_and, List.nil_append, List.cons_append, List.append_nil, reduceCtorEq, false_and, exists_false, or_false, false_or, and_false, Int.reduceNeg, decide_eq_true_eq, Bool.not_eq_true', decide_eq_false_iff_not, and_assoc, tYes, ↓reduceIte, wipe, Bool.false_eq_true, Bool.true_eq_false, cxOf, false_implies, true_implies, implies_true, forall_const]
  exact ⟨cdw (by omega) (by omega), q⟩
def sp_l_next (_ : PySem.W.Frag) : Sp := fun vs H Q _ => ∃ t p : Int, vs = [.int t, .int p] ∧ 2 ≤ p ∧ p ≤ 5 ∧ Q (.int (room p t)) H
theorem len_l_next {vs H Q E} (h : sp_l_next K vs H Q E) : vs.length = 2 := by
  obtain ⟨_, _, rfl, _⟩ := h; rfl
theorem ok_l_next {f : Addr} {fd : FuncData} (F : Fun K "_law_next" "_law_next" s_l_next f fd) (T : Txt K mg cBadPool cBadPeople) : FnOk P w K mg base CX0 1 f fd ps_l_next (sp_l_next K) := by
  refine F.ok (k := 0) sc_l_next (fun vs H Q E h => len_l_next h) (fun cdv A outer s H vs Q E hr h => ?_)
  refine ⟨_, (pss_one (ps_ret (pe_op op_add (pe_op op_fdivW (pv 0) (pe_op op_sub (pv 1) pe_int)) pe_int))), ?_⟩
  obtain ⟨t, p, rfl, h2, h5, q⟩ := h
  simp only [tSeq, tAsg, tDrop, tRet, tRetN, tIfS, tNext, tTest, tB, tNot, tAnd, tOr, tChain, tIf, tAndV, tOrV, tNotV, tOp, tUn, tCB, tCons, tNil, tVar, tC, tCall, tCallS, gName, rI, rI0, rU, rEq, rNe, tTup, tLst, gSub, rSetL, rIxL, rIxT, L2.start, List.map_cons, List.map_nil, List.length_cons, List.length_nil, Nat.reduceAdd, Nat.reduceSub, List.replicate_succ, List.replicate_zero, List.getElem?_cons_zero, List.getElem?_cons_succ, List.set_cons_zero, List.set_cons_succ, Option.some.injEq, exists_eq_left', exists_eq_left, exists_and_left, V.int.injEq, V.bl.injEq, V.ref.injEq, V.str.injEq, List.cons.injEq, and_true, true_and, List.nil_append, List.cons_append, List.append_nil, reduceCtorEq, false_and, exists_false, or_false, false_or, and_false, Int.reduceNeg, decide_eq_true_eq, Bool.not_eq_true', decide_eq_false_iff_not, and_assoc, tYes, ↓reduceIte, wipe, Bool.false_eq_true, Bool.true_eq_false, cxOf, false_implies, true_implies, implies_true, forall_const]
  exact ⟨cdw (by omega) (by omega), q⟩
def sp_l_odd_people (_ : PySem.W.Frag) : Sp := fun vs H Q _ => ∃ h q : Addr, vs = [.ref h] ∧ HandAt H h q ∧ ∀ x H', Plain H' x → whole x 2 5 = false → HandAt H' h q → But h H H' → Q x H'
theorem len_l_odd_people {vs H Q E} (h : sp_l_odd_people K vs H Q E) : vs.length = 1 := by
  obtain ⟨_, _, rfl, _⟩ := h; rfl
theorem ok_l_odd_people {f : Addr} {fd : FuncData} (F : Fun K "_law_odd_people" "_law_odd_people" s_l_odd_people f fd) (T : Txt K mg cBadPool cBadPeople) : FnOk P w K mg base CX0 4 f fd ps_l_odd_people (sp_l_odd_people K) := by
  obtain ⟨f_l_pick, fd_l_pick, F_l_pick, m_l_pick, b_l_pick⟩ := T.d_l_pick
  have G_l_pick : FnOk P w K mg base CX0 3 f_l_pick fd_l_pick ps_l_pick (sp_l_pick K) := ok_l_pick F_l_pick T
  refine F.ok (k := 3) sc_l_odd_people (fun vs H Q E h => len_l_odd_people h) (fun cdv A outer s H vs Q E hr h => ?_)
  refine ⟨_, (pss_one (ps_ret (pe_call G_l_pick (hr.mono (by decide)) (by rfl) m_l_pick F_l_pick.kp b_l_pick .nil pass0 (pa_cons (pv 0) (pa_cons (pe_lst (pa_cons pe_int (pa_cons pe_int (pa_cons pe_int (pa_cons (pe_un un_neg pe_int) (pa_cons pe_non (pa_cons pe_bl (pa_cons pe_str (pa_cons (pe_tup (pa_cons pe_int pa_nil)) (pa_cons (pe_op op_pow pe_int pe_int) pa_nil)))))))))) pa_nil))))), ?_⟩
  obtain ⟨h, q, rfl, hh, k⟩ := h
  simp only [tSeq, tAsg, tDrop, tRet, tRetN, tIfS, tNext, tTest, tB, tNot, tAnd, tOr, tChain, tIf, tAndV, tOrV, tNotV, tOp, tUn, tCB, tCons, tNil, tVar, tC, tCall, tCallS, gName, rI, rI0, rU, rEq, rNe, tTup, tLst, gSub, rSetL, rIxL, rIxT, L2.start, List.map_cons, List.map_nil, List.length_cons, List.length_nil, Nat.reduceAdd, Nat.reduceSub, List.replicate_succ, List.replicate_zero, List.getElem?_cons_zero, List.getElem?_cons_succ, List.set_cons_zero, List.set_cons_succ, Option.some.injEq, exists_eq_left', exists_eq_left, exists_and_left, V.int.injEq, V.bl.injEq, V.ref.injEq, V.str.injEq, List.cons.injEq, and_true, true_and, List.nil_append, List.cons_append, List.append_nil, reduceCtorEq, false_and, exists_false, or_false, false_or, and_false, Int.reduceNeg, decide_eq_true_eq, Bool.not_eq_true', decide_eq_false_iff_not, and_assoc, tYes, ↓reduceIte, wipe, Bool.false_eq_true, Bool.true_eq_false, cxOf, false_implies, true_implies, implies_true, forall_const, sp_l_pick]
  refine ⟨by decide, fun p hp => ⟨⟨by decide, by decide, by decide⟩, by decide, fun l hl => ?_⟩⟩
  have hl' : H l = none := Same.free (Same.new hp) hl
  have st := (Same.new hp).trans (Same.new (o := HO.lst [V.int 1, V.int 0, V.int 6, V.int (-2), V.non, V.bl true, V.str (Str.ofString "2"), V.ref p, V.int (10 ^ Int.toNat 20)]) hl)
  refine ⟨q, hh.same st, _, upd_same, by show 0 < 9; decide, by show 9 ≤ 1000; decide, hh.off hl', fun v H' hv hh' bt => ?_⟩
  have bt' : But h H H' := (But.of st).trans bt
  have hpp : H' p = some (.tup [V.int 2]) := bt _ _ (by rw [upd_ne (ne_of_none upd_same hl), upd_same]) (hh.off hp)
  simp only [List.mem_cons, List.not_mem_nil, or_false] at hv
  rcases hv with rfl | rfl | rfl | rfl | rfl | rfl | rfl | rfl | rfl
  all_goals first
    | exact k _ _ trivial (by decide +kernel) hh' bt'
    | exact k _ _ (.inl ⟨_, hpp⟩) rfl hh' bt'
def sp_l_is_coins (_ : PySem.W.Frag) : Sp := fun vs H Q _ => ∃ (a : Addr) (ns : List Int), vs = [.ref a] ∧ H a = some (.tup (ns.map V.int)) ∧ (∀ n, n ∈ ns → 1 ≤ n) ∧ ns.Pairwise (· ≤ ·) ∧ ∀ H', Same H H' → Q (.bl true) H'
theorem len_l_is_coins {vs H Q E} (h : sp_l_is_coins K vs H Q E) : vs.length = 1 := by
  obtain ⟨_, _, rfl, _⟩ := h; rfl
theorem ok_l_is_coins {f : Addr} {fd : FuncData} (F : Fun K "_law_is_coins" "_law_is_coins" s_l_is_coins f fd) (T : Txt K mg cBadPool cBadPeople) : FnOk P w K mg base CX0 2 f fd ps_l_is_coins (sp_l_is_coins K) := by
  obtain ⟨f_l_is_whole, fd_l_is_whole, F_l_is_whole, m_l_is_whole, b_l_is_whole⟩ := T.d_l_is_whole
  have G_l_is_whole : FnOk P w K mg base CX0 1 f_l_is_whole fd_l_is_whole ps_l_is_whole (sp_l_is_whole K) := ok_l_is_whole F_l_is_whole T
  refine F.ok (k := 1) sc_l_is_coins (fun vs H Q E h => len_l_is_coins h) (fun cdv A outer s H vs Q E hr h => ?_)
  refine ⟨_, (pss_cons (ps_if (PW.pt (pw_or (pt_not (pt_val (pe_callB call_isi (by rfl) T.n_isinstance (by decide +kernel) (pa_cons (pv 0) (pa_cons (pe_bltn (v := .ty "tuple") (by rfl) T.n_tuple (by decide +kernel) rfl) pa_nil))))) (pw_or1 (pt_cmpR (op_neD hr.units) (pe_lc (own := [("_law_coin", 1)]) (g := gName 1) (tt := _) rfl sc_l_is_coins.nd (pi_tup (pv 0)) (blkOk_by (N := nm_l_is_coins) (sc := defScope s_l_is_coins) (by decide +kernel)) (fun _ _ _ _ _ => (pg_name (i := 1) sc_l_is_coins.nd rfl (Or.inl rfl))) (fun _ _ _ _ _ => (pts_one (PW.pt (pw_or (pt_not (pt_val (pe_call G_l_is_whole (hr.mono (by decide)) (by rfl) m_l_is_whole F_l_is_whole.kp b_l_is_whole .nil pass0 (pa_cons (pv 1) pa_nil)))) (pw_or1 (pt_cmpR op_lt (pv 1) pe_int (nomark _))))))) (fun _ _ _ _ _ => (pv 1))) (pe_lst pa_nil) (nomark _))))) (pss_one (ps_ret pe_bl)) pss_nil)
      (pss_one (ps_ret (pe_cmpR (op_eqD hr.units) (pe_callTy call_list_of (by rfl) T.n_list (by decide +kernel) (pa_cons (pv 0) pa_nil)) (pe_callB cr_sortedE (by rfl) T.n_sorted (by decide +kernel) (pa_cons (pe_callTy call_list_of (by rfl) T.n_list (by decide +kernel) (pa_cons (pv 0) pa_nil)) pa_nil)) (nomark _))))), ?_⟩
  obtain ⟨a, ns, rfl, ha, h1, hs, k⟩ := h
  simp only [tSeq, tAsg, tDrop, tRet, tRetN, tIfS, tNext, tTest, tB, tNot, tAnd, tOr, tChain, tIf, tAndV, tOrV, tNotV, tOp, tUn, tCB, tCons, tNil, tVar, tC, tCall, tCallS, gName, rI, rI0, rU, rEq, rNe, tTup, tLst, gSub, rSetL, rIxL, rIxT, L2.start, List.map_cons, List.map_nil, List.length_cons, List.length_nil, Nat.reduceAdd, Nat.reduceSub, List.replicate_succ, List.replicate_zero, List.getElem?_cons_zero, List.getElem?_cons_succ, List.set_cons_zero, List.set_cons_succ, Option.some.injEq, exists_eq_left', exists_eq_left, exists_and_left, V.int.injEq, V.bl.injEq, V.ref.injEq, V.str.injEq, List.cons.injEq, and_true, true_and, List.nil_append, List.cons_append, List.append_nil, reduceCtorEq, false_and, exists_false, or_false, false_or, and_false, Int.reduceNeg, decide_eq_true_eq, Bool.not_eq_true', decide_eq_false_iff_not, and_assoc, tYes, ↓reduceIte, wipe, Bool.false_eq_true, Bool.true_eq_false, cxOf, false_implies, true_implies, implies_true, forall_const]
  refine isi_tuple ha ⟨true, rfl, ?_⟩
  rw [if_neg (fun z => by cases z)]
  refine ⟨_, rfl, a, rfl, ⟨_, SqT.of ha⟩, fun D hD => lc_tup (K := K) (a := a) (xs := ns.map V.int) (fun i h' => Same H h' ∧ h' D = some (.lst [])) ⟨Same.new hD, upd_same⟩ (fun i h' _ ⟨s, _⟩ => SqT.of (s _ _ ha)) ?_ ?_⟩
  · rintro i x h' hi ⟨s, e⟩
    obtain ⟨c, hc, rfl⟩ := nat_map hi
    have c1 := h1 c (List.mem_of_getElem? hc)
    simp only [tSeq, tAsg, tDrop, tRet, tRetN, tIfS, tNext, tTest, tB, tNot, tAnd, tOr, tChain, tIf, tAndV, tOrV, tNotV, tOp, tUn, tCB, tCons, tNil, tVar, tC, tCall, tCallS, gName, rI, rI0, rU, rEq, rNe, tTup, tLst, gSub, rSetL, rIxL, rIxT, L2.start, List.map_cons, List.map_nil, List.length_cons, List.length_nil, Nat.reduceAdd, Nat.reduceSub, List.replicate_succ, List.replicate_zero, List.getElem?_cons_zero, List.getElem?_cons_succ, List.set_cons_zero, List.set_cons_succ, Option.some.injEq, exists_eq_left', exists_eq_left, exists_and_left, V.int.injEq, V.bl.injEq, V.ref.injEq, V.str.injEq, List.cons.injEq, and_true, true_and, List.nil_append, List.cons_append, List.append_nil, reduceCtorEq, false_and, exists_false, or_false, false_or, and_false, Int.reduceNeg, decide_eq_true_eq, Bool.not_eq_true', decide_eq_false_iff_not, and_assoc, tYes, ↓reduceIte, wipe, Bool.false_eq_true, Bool.true_eq_false, cxOf, false_implies, true_implies, implies_true, forall_const, sp_l_is_whole, isI]
    rw [if_neg (show ¬ c < 1 by omega)]
    exact ⟨True.intro, s, e⟩
  · rintro h' ⟨s, e⟩
    refine ⟨Nat.zero_le _, fun l hl => ne_ints (ns := []) (SqL.of (by rw [upd_ne (ne_of_none e hl)]; exact e)) (SqL.of upd_same) ⟨false, rfl, iteF ?_⟩⟩
    have s2 := s.trans (Same.new (o := HO.lst []) hl)
    generalize upd h' l (.lst []) = H2 at s2 ⊢
    simp only [tSeq, tAsg, tDrop, tRet, tRetN, tIfS, tNext, tTest, tB, tNot, tAnd, tOr, tChain, tIf, tAndV, tOrV, tNotV, tOp, tUn, tCB, tCons, tNil, tVar, tC, tCall, tCallS, gName, rI, rI0, rU, rEq, rNe, tTup, tLst, gSub, rSetL, rIxL, rIxT, L2.start, List.map_cons, List.map_nil, List.length_cons, List.length_nil, Nat.reduceAdd, Nat.reduceSub, List.replicate_succ, List.replicate_zero, List.getElem?_cons_zero, List.getElem?_cons_succ, List.set_cons_zero, List.set_cons_succ, Option.some.injEq, exists_eq_left', exists_eq_left, exists_and_left, V.int.injEq, V.bl.injEq, V.ref.injEq, V.str.injEq, List.cons.injEq, and_true, true_and, List.nil_append, List.cons_append, List.append_nil, reduceCtorEq, false_and, exists_false, or_false, false_or, and_false, Int.reduceNeg, decide_eq_true_eq, Bool.not_eq_true', decide_eq_false_iff_not, and_assoc, tYes, ↓reduceIte, wipe, Bool.false_eq_true, Bool.true_eq_false, cxOf, false_implies, true_implies, implies_true, forall_const, rSortedE]
    refine ⟨_, .inr (SqT.of (s2 _ _ ha)), fun l1 hl1 => ⟨_, .inr (SqT.of ((Same.new hl1) _ _ (s2 _ _ ha))), fun l2 hl2 => ⟨ns, .inl (SqL.of upd_same), fun ms b p1 p2 hb => ?_⟩⟩⟩
    obtain rfl := PySem.W.os_sorted_one p1 p2 hs
    refine eq_ints (SqL.of ((Same.new hb) _ _ ((Same.new hl2) _ _ upd_same))) (SqL.of upd_same) (k _ (s2.trans ((Same.new hl1).trans ((Same.new hl2).trans (Same.new hb)))))
theorem srv_up2 {p c r : Int} (p0 : 2 ≤ p) (p1 : p ≤ 5) (h : room p r < c) : (r + c + p - 1) / p < c := by
  unfold room at h
  have e : p = 2 ∨ p = 3 ∨ p = 4 ∨ p = 5 := by omega
  rcases e with rfl | rfl | rfl | rfl <;> omega
theorem srv_snoc {p : Int} : ∀ {ns : List Int} {r c : Int}, Srv p r (ns ++ [c]) ↔ Srv p r ns ∧ c ≤ room p (r + ns.sum)
  | [], r, c => by
    rw [List.sum_nil, Int.add_zero]
    exact ⟨fun h => ⟨True.intro, h.1⟩, fun h => ⟨h.2, True.intro⟩⟩
  | d :: ds, r, c => by
    rw [List.sum_cons, ← Int.add_assoc]
    constructor
    · rintro ⟨h1, h2⟩
      have z := srv_snoc.mp h2
      exact ⟨⟨h1, z.1⟩, z.2⟩
    · rintro ⟨⟨h1, h2⟩, h3⟩
      exact ⟨h1, srv_snoc.mpr ⟨h2, h3⟩⟩
theorem srv_left {p : Int} : ∀ {a b : List Int} {r : Int}, Srv p r (a ++ b) → Srv p r a
  | [], _, _, _ => True.intro
  | _ :: _, _, _, h => ⟨h.1, srv_left h.2⟩
theorem srv_take {p : Int} {ns : List Int} {i : Nat} (h : Srv p 0 ns) : Srv p 0 (ns.take i) := by
  rw [← List.take_append_drop i ns] at h
  exact srv_left h
/-- whether coins serve, in any order: a list or a tuple -/
def sp_l_serves (_ : PySem.W.Frag) : Sp := fun vs H Q _ => ∃ (a : Addr) (ns : List Int) (p : Int), vs = [.ref a, .int p] ∧ Row H a (ns.map V.int) ∧ 2 ≤ p ∧ p ≤ 5 ∧
  ∀ (ms : List Int) (H' : Hp), Same H H' → ms.Perm ns → ms.Pairwise (· ≤ ·) → (Srv p 0 ms → Q (.bl true) H') ∧ (¬ Srv p 0 ms → Q (.bl false) H')
theorem len_l_serves {vs H Q E} (h : sp_l_serves K vs H Q E) : vs.length = 2 := by
  obtain ⟨_, _, _, rfl, _⟩ := h; rfl
theorem ok_l_serves {f : Addr} {fd : FuncData} (F : Fun K "_law_serves" "_law_serves" s_l_serves f fd) (T : Txt K mg cBadPool cBadPeople) : FnOk P w K mg base CX0 2 f fd ps_l_serves (sp_l_serves K) := by
  obtain ⟨f_l_up, fd_l_up, F_l_up, m_l_up, b_l_up⟩ := T.d_l_up
  have G_l_up : FnOk P w K mg base CX0 1 f_l_up fd_l_up ps_l_up (sp_l_up K) := ok_l_up F_l_up T
  refine F.ok (k := 1) sc_l_serves (fun vs H Q E h => len_l_serves h) (fun cdv A outer s H vs Q E hr h => ?_)
  refine ⟨_, (pss_cons (ps_set (i := 2) sc_l_serves.nd rfl (Or.inl rfl) pe_int)
      (pss_cons (ps_for PassesOwn.never rfl (pi_list (pe_callB cr_sortedE (by rfl) T.n_sorted (by decide +kernel) (pa_cons (pe_callTy call_list_of (by rfl) T.n_list (by decide +kernel) (pa_cons (pv 0) pa_nil)) pa_nil))) (pg_name (i := 3) sc_l_serves.nd rfl (Or.inl rfl))
      (pss_cons (ps_set (i := 2) sc_l_serves.nd rfl (Or.inl rfl) (pe_op op_add (pv 2) (pv 3)))
      (pss_one (ps_if (pt_cmpR op_gt (pv 3) (pe_call G_l_up (hr.mono (by decide)) (by rfl) m_l_up F_l_up.kp b_l_up .nil pass0 (pa_cons (pv 2) (pa_cons (pv 1) pa_nil))) (nomark _)) (pss_one (ps_ret pe_bl)) pss_nil))))
      (pss_one (ps_ret pe_bl)))), ?_⟩
  obtain ⟨a, ns, p, rfl, ha, p0, p1, k⟩ := h
  simp only [tSeq, tAsg, tDrop, tRet, tRetN, tIfS, tNext, tTest, tB, tNot, tAnd, tOr, tChain, tIf, tAndV, tOrV, tNotV, tOp, tUn, tCB, tCons, tNil, tVar, tC, tCall, tCallS, gName, rI, rI0, rU, rEq, rNe, tTup, tLst, gSub, rSetL, rIxL, rIxT, L2.start, List.map_cons, List.map_nil, List.length_cons, List.length_nil, Nat.reduceAdd, Nat.reduceSub, List.replicate_succ, List.replicate_zero, List.getElem?_cons_zero, List.getElem?_cons_succ, List.set_cons_zero, List.set_cons_succ, Option.some.injEq, exists_eq_left', exists_eq_left, exists_and_left, V.int.injEq, V.bl.injEq, V.ref.injEq, V.str.injEq, List.cons.injEq, and_true, true_and, List.nil_append, List.cons_append, List.append_nil, reduceCtorEq, false_and, exists_false, or_false, false_or, and_false, Int.reduceNeg, decide_eq_true_eq, Bool.not_eq_true', decide_eq_false_iff_not, and_assoc, tYes, ↓reduceIte, wipe, Bool.false_eq_true, Bool.true_eq_false, cxOf, false_implies, true_implies, implies_true, forall_const]
  refine ⟨_, rfl, a, rfl, ns.map V.int, ha.sq, fun l hl => ⟨l, ns, rfl, .inl (SqL.of upd_same), fun ms b h1 h2 hb => ⟨b, rfl, ⟨_, SqL.of upd_same⟩, ?_⟩⟩⟩
  have s := (Same.new (o := HO.lst (ns.map V.int)) hl).trans (Same.new (o := HO.lst (ms.map V.int)) hb)
  have eb : upd (upd H l (HO.lst (ns.map V.int))) b (HO.lst (ms.map V.int)) b = some (HO.lst (ms.map V.int)) := upd_same
  generalize upd (upd H l (HO.lst (ns.map V.int))) b (HO.lst (ms.map V.int)) = H2 at s eb ⊢
  refine for_list (K := K) (a := b) (xs := ms.map V.int) (fun i z h' => ∃ v, z = [some (.ref a), some (.int p), some (.int (ms.take i).sum), v] ∧ Srv p 0 (ms.take i) ∧ h' = H2)
    ⟨none, rfl, True.intro, rfl⟩ (fun i z h' _ ⟨_, _, _, e⟩ => e ▸ SqL.of eb) ?_ ?_
  · rintro i x z h' hi ⟨v, rfl, sv, rfl⟩
    obtain ⟨c, hc, rfl⟩ := nat_map hi
    have tk : ms.take (i + 1) = ms.take i ++ [c] := by rw [List.take_add_one, hc]; rfl
    simp only [tSeq, tAsg, tDrop, tRet, tRetN, tIfS, tNext, tTest, tB, tNot, tAnd, tOr, tChain, tIf, tAndV, tOrV, tNotV, tOp, tUn, tCB, tCons, tNil, tVar, tC, tCall, tCallS, gName, rI, rI0, rU, rEq, rNe, tTup, tLst, gSub, rSetL, rIxL, rIxT, L2.start, List.map_cons, List.map_nil, List.length_cons, List.length_nil, Nat.reduceAdd, Nat.reduceSub, List.replicate_succ, List.replicate_zero, List.getElem?_cons_zero, List.getElem?_cons_succ, List.set_cons_zero, List.set_cons_succ, Option.some.injEq, exists_eq_left', exists_eq_left, exists_and_left, V.int.injEq, V.bl.injEq, V.ref.injEq, V.str.injEq, List.cons.injEq, and_true, true_and, List.nil_append, List.cons_append, List.append_nil, reduceCtorEq, false_and, exists_false, or_false, false_or, and_false, Int.reduceNeg, decide_eq_true_eq, Bool.not_eq_true', decide_eq_false_iff_not, and_assoc, tYes, ↓reduceIte, wipe, Bool.false_eq_true, Bool.true_eq_false, cxOf, false_implies, true_implies, implies_true, forall_const, sp_l_up]
    refine ⟨p0, p1, ?_⟩
    by_cases t : c ≤ room p (ms.take i).sum
    · rw [if_neg (srv_up p0 p1 t)]
      exact ⟨by rw [L2.sum_take hc], by rw [tk]; exact srv_snoc.mpr ⟨sv, by rw [Int.zero_add]; exact t⟩⟩
    · rw [if_pos (srv_up2 p0 p1 (by omega))]
      refine (k ms _ s h1 h2).2 fun z => t ?_
      have y := srv_take (i := i + 1) z
      rw [tk] at y
      have w := (srv_snoc.mp y).2
      rwa [Int.zero_add] at w
  · rintro z h' ⟨v, rfl, sv, rfl⟩
    rw [List.length_map, List.take_length] at sv
    exact (k ms _ s h1 h2).1 sv
end
end My
set_option Elab.async false
set_option linter.all false
set_option maxRecDepth 100000
set_option maxHeartbeats 4000000
namespace My
open PySem PySem.Spec PyProof.Rows L2 Gen
section
variable {P : Program} {w : World} {K : PySem.W.Frag} {mg : Str → Option Value} {base : Heap} { cBadPool cBadPeople : Addr}
def sp_l_walk (_ : PySem.W.Frag) : Sp := fun vs H Q _ => ∃ (a : Addr) (ns : List Int) (p : Int), vs = [.ref a, .int p] ∧ Row H a (ns.map V.int) ∧ ns.length ≤ 12 ∧ (∀ n, n ∈ ns → 1 ≤ n ∧ n ≤ 1000000000) ∧ 2 ≤ p ∧ p ≤ 5 ∧
  ∀ (H' : Hp) (b : Addr) (ms : List Int), Same H H' → H' b = some (.tup ((mL p ms).map V.int)) → ms.Perm ns → ms.Pairwise (· ≤ ·) → Q (.ref b) H'
theorem len_l_walk {vs H Q E} (h : sp_l_walk K vs H Q E) : vs.length = 2 := by
  obtain ⟨_, _, _, rfl, _⟩ := h; rfl
theorem ok_l_walk {f : Addr} {fd : FuncData} (F : Fun K "_law_walk" "_law_walk" s_l_walk f fd) (T : Txt K mg cBadPool cBadPeople) : FnOk P w K mg base CX0 2 f fd ps_l_walk (sp_l_walk K) := by
  obtain ⟨f_l_up, fd_l_up, F_l_up, m_l_up, b_l_up⟩ := T.d_l_up
  have G_l_up : FnOk P w K mg base CX0 1 f_l_up fd_l_up ps_l_up (sp_l_up K) := ok_l_up F_l_up T
  refine F.ok (k := 1) sc_l_walk (fun vs H Q E h => len_l_walk h) (fun cdv A outer s H vs Q E hr h => ?_)
  refine ⟨_, (pss_cons (ps_set (i := 2) sc_l_walk.nd rfl (Or.inl rfl) pe_int)
      (pss_cons (ps_set (i := 3) sc_l_walk.nd rfl (Or.inl rfl) (pe_lst pa_nil))
      (pss_cons (ps_for PassesOwn.never rfl (pi_list (pe_callB cr_sortedE (by rfl) T.n_sorted (by decide +kernel) (pa_cons (pe_callTy call_list_of (by rfl) T.n_list (by decide +kernel) (pa_cons (pv 0) pa_nil)) pa_nil))) (pg_name (i := 4) sc_l_walk.nd rfl (Or.inl rfl))
      (pss_cons (ps_for PassesOwn.never rfl (pi_range1 (by rfl) T.n_range (pa_cons pe_int pa_nil)) (pg_name (i := 5) sc_l_walk.nd rfl (Or.inl rfl))
      (pss_cons (ps_if (pt_cmpR op_le (pv 4) (pe_call G_l_up (hr.mono (by decide)) (by rfl) m_l_up F_l_up.kp b_l_up .nil pass0 (pa_cons (pe_op op_add (pv 2) (pv 4)) (pa_cons (pv 1) pa_nil))) (nomark _)) (pss_one ps_break) pss_nil)
      (pss_cons (ps_set (i := 6) sc_l_walk.nd rfl (Or.inl rfl) (pe_op op_add (pe_op op_fdivW (pv 2) (pe_op op_sub (pv 1) pe_int)) pe_int))
      (pss_cons (ps_expr (pe_bm PySem.F.plainAttrs_list PySem.F.slot_list_append PySem.F.type_list_append mt_append (pv 3) (pa_cons (pv 6) pa_nil)))
      (pss_one (ps_set (i := 2) sc_l_walk.nd rfl (Or.inl rfl) (pe_op op_add (pv 2) (pv 6))))))))
      (pss_one (ps_set (i := 2) sc_l_walk.nd rfl (Or.inl rfl) (pe_op op_add (pv 2) (pv 4))))))
      (pss_one (ps_ret (pe_callTy call_tuple_of (by rfl) T.n_tuple (by decide +kernel) (pa_cons (pv 3) pa_nil))))))), ?_⟩
  obtain ⟨a, ns, p, rfl, ha, hl, nb, p0, p5, k⟩ := h
  simp only [tSeq, tAsg, tDrop, tRet, tRetN, tIfS, tNext, tTest, tB, tNot, tAnd, tOr, tChain, tIf, tAndV, tOrV, tNotV, tOp, tUn, tCB, tCons, tNil, tVar, tC, tCall, tCallS, gName, rI, rI0, rU, rEq, rNe, tTup, tLst, gSub, rSetL, rIxL, rIxT, L2.start, List.map_cons, List.map_nil, List.length_cons, List.length_nil, Nat.reduceAdd, Nat.reduceSub, List.replicate_succ, List.replicate_zero, List.getElem?_cons_zero, List.getElem?_cons_succ, List.set_cons_zero, List.set_cons_succ, Option.some.injEq, exists_eq_left', exists_eq_left, exists_and_left, V.int.injEq, V.bl.injEq, V.ref.injEq, V.str.injEq, List.cons.injEq, and_true, true_and, List.nil_append, List.cons_append, List.append_nil, reduceCtorEq, false_and, exists_false, or_false, false_or, and_false, Int.reduceNeg, decide_eq_true_eq, Bool.not_eq_true', decide_eq_false_iff_not, and_assoc, tYes, ↓reduceIte, wipe, Bool.false_eq_true, Bool.true_eq_false, cxOf, false_implies, true_implies, implies_true, forall_const]
  refine ⟨Nat.zero_le _, fun q hq => ?_⟩
  have sq := Same.new (o := HO.lst []) hq
  refine ⟨_, rfl, a, rfl, ns.map V.int, (ha.same sq).sq, fun l hl2 => ⟨l, ns, rfl, .inl (SqL.of upd_same), fun ms b h1 h2 hb => ⟨b, rfl, ⟨_, SqL.of upd_same⟩, ?_⟩⟩⟩
  have mb : ∀ c, c ∈ ms → 1 ≤ c ∧ c ≤ 1000000000 := fun c hc => nb c (h1.subset hc)
  have ml : ms.length ≤ 12 := by rw [h1.length_eq]; exact hl
  have s := (Same.new (o := HO.lst (ns.map V.int)) hl2).trans (Same.new (o := HO.lst (ms.map V.int)) hb)
  have eq0 := s q _ upd_same
  have eb : upd (upd (upd H q (HO.lst [])) l (HO.lst (ns.map V.int))) b (HO.lst (ms.map V.int)) b = some (HO.lst (ms.map V.int)) := upd_same
  have nq : q ≠ b := fun z => by rw [← z] at hb; rw [(Same.new (o := HO.lst (ns.map V.int)) hl2) _ _ upd_same] at hb; cases hb
  have sH := sq.trans s
  have fq : ∀ c o, H c = some o → c ≠ q := fun c o e => ne_of_none e hq
  generalize upd (upd (upd H q (HO.lst [])) l (HO.lst (ns.map V.int))) b (HO.lst (ms.map V.int)) = H2 at s eq0 eb sH ⊢
  refine for_list (K := K) (a := b) (xs := ms.map V.int) (fun i z h => ∃ v u t, z = [some (.ref a), some (.int p), some (.int (mA p (ms.take i))), some (.ref q), v, u, t] ∧ Same H h ∧ h b = some (.lst (ms.map V.int)) ∧ h q = some (.lst ((mL p (ms.take i)).map V.int)) ∧ (mL p (ms.take i)).length ≤ 400 * i)
    ⟨none, none, none, rfl, sH, eb, eq0, Nat.zero_le _⟩ (fun i z h _ ⟨_, _, _, _, _, e, _⟩ => SqL.of e) ?_ ?_
  · rintro i x z h hi ⟨v, u, t, rfl, s2, hB, hL, hn⟩
    obtain ⟨c, hc, rfl⟩ := nat_map hi
    have ilt : i < ms.length := (List.getElem?_eq_some_iff.mp hc).1
    have cb := mb c (List.mem_of_getElem? hc)
    have tk : ms.take (i + 1) = ms.take i ++ [c] := by rw [List.take_add_one, hc]; rfl
    have a0 := mA_nonneg p0 (cs := ms.take i) fun x hx => (mb x (List.mem_of_mem_take hx)).1
    have ok := stp_ok p0 p5 a0 cb.2
    have le := stp_le (p := p) (c := c) 400 (mA p (ms.take i))
    rw [tk, mA_snoc, mL_snoc]
    generalize mA p (ms.take i) = A0 at a0 ok le ⊢
    generalize mL p (ms.take i) = L0 at hL hn ⊢
    have fin : ∀ (j : Nat), j ≤ stp p c 400 A0 → c ≤ room p (grow p j A0) → j = stp p c 400 A0 := fun j hj ge => by
      rcases Nat.lt_or_ge j (stp p c 400 A0) with g | g
      · have := stp_lo 400 A0 j g
        omega
      · exact Nat.le_antisymm hj g
    refine ⟨400, rfl, by decide, by decide, for_range (lo := 0) (n := 400) (fun j z h' => ∃ v u, j ≤ stp p c 400 A0 ∧ z = [some (.ref a), some (.int p), some (.int (grow p j A0)), some (.ref q), some (.int c), v, u] ∧ Same H h' ∧ h' b = some (.lst (ms.map V.int)) ∧ h' q = some (.lst ((L0 ++ puts p A0 j).map V.int)))
      ⟨u, t, Nat.zero_le _, rfl, s2, hB, by rw [show puts p A0 0 = [] from rfl, List.append_nil]; exact hL⟩ ?_ ?_⟩
    · rintro j z h' hj ⟨v, u, hs, rfl, s3, hB3, hL3⟩
      simp only [tSeq, tAsg, tDrop, tRet, tRetN, tIfS, tNext, tTest, tB, tNot, tAnd, tOr, tChain, tIf, tAndV, tOrV, tNotV, tOp, tUn, tCB, tCons, tNil, tVar, tC, tCall, tCallS, gName, rI, rI0, rU, rEq, rNe, tTup, tLst, gSub, rSetL, rIxL, rIxT, L2.start, List.map_cons, List.map_nil, List.length_cons, List.length_nil, Nat.reduceAdd, Nat.reduceSub, List.replicate_succ, List.replicate_zero, List.getElem?_cons_zero, List.getElem?_cons_succ, List.set_cons_zero, List.set_cons_succ, Option.some.injEq, exists_eq_left', exists_eq_left, exists_and_left, V.int.injEq, V.bl.injEq, V.ref.injEq, V.str.injEq, List.cons.injEq, and_true, true_and, List.nil_append, List.cons_append, List.append_nil, reduceCtorEq, false_and, exists_false, or_false, false_or, and_false, Int.reduceNeg, decide_eq_true_eq, Bool.not_eq_true', decide_eq_false_iff_not, and_assoc, tYes, ↓reduceIte, wipe, Bool.false_eq_true, Bool.true_eq_false, cxOf, false_implies, true_implies, implies_true, forall_const, sp_l_up]
      refine ⟨p0, p5, ?_⟩
      split
      · rename_i lt
        have ge : c ≤ room p (grow p j A0) := by
          rcases Int.lt_or_le (room p (grow p j A0)) c with g | g
          · have := srv_up2 p0 p5 g
            omega
          · exact g
        obtain rfl := fin j hs ge
        simp only [tSeq, tAsg, tDrop, tRet, tRetN, tIfS, tNext, tTest, tB, tNot, tAnd, tOr, tChain, tIf, tAndV, tOrV, tNotV, tOp, tUn, tCB, tCons, tNil, tVar, tC, tCall, tCallS, gName, rI, rI0, rU, rEq, rNe, tTup, tLst, gSub, rSetL, rIxL, rIxT, L2.start, List.map_cons, List.map_nil, List.length_cons, List.length_nil, Nat.reduceAdd, Nat.reduceSub, List.replicate_succ, List.replicate_zero, List.getElem?_cons_zero, List.getElem?_cons_succ, List.set_cons_zero, List.set_cons_succ, Option.some.injEq, exists_eq_left', exists_eq_left, exists_and_left, V.int.injEq, V.bl.injEq, V.ref.injEq, V.str.injEq, List.cons.injEq, and_true, true_and, List.nil_append, List.cons_append, List.append_nil, reduceCtorEq, false_and, exists_false, or_false, false_or, and_false, Int.reduceNeg, decide_eq_true_eq, Bool.not_eq_true', decide_eq_false_iff_not, and_assoc, tYes, ↓reduceIte, wipe, Bool.false_eq_true, Bool.true_eq_false, cxOf, false_implies, true_implies, implies_true, forall_const, tBreak]
        exact ⟨s3, hB3, hL3, by rw [List.length_append, puts_len]; omega⟩
      · rename_i lt
        have hj2 : j < stp p c 400 A0 := by
          rcases Nat.lt_or_ge j (stp p c 400 A0) with g | g
          · exact g
          · have e : j = stp p c 400 A0 := Nat.le_antisymm hs g
            rw [← e] at ok
            exact absurd (Int.not_lt.mp (srv_up p0 p5 ok)) lt
        have ln : ((L0 ++ puts p A0 j).map V.int).length = L0.length + j := by rw [List.length_map, List.length_append, puts_len]
        refine ⟨cdw (by omega) (by omega), ?_⟩
        simp only [tSeq, tAsg, tDrop, tRet, tRetN, tIfS, tNext, tTest, tB, tNot, tAnd, tOr, tChain, tIf, tAndV, tOrV, tNotV, tOp, tUn, tCB, tCons, tNil, tVar, tC, tCall, tCallS, gName, rI, rI0, rU, rEq, rNe, tTup, tLst, gSub, rSetL, rIxL, rIxT, L2.start, List.map_cons, List.map_nil, List.length_cons, List.length_nil, Nat.reduceAdd, Nat.reduceSub, List.replicate_succ, List.replicate_zero, List.getElem?_cons_zero, List.getElem?_cons_succ, List.set_cons_zero, List.set_cons_succ, Option.some.injEq, exists_eq_left', exists_eq_left, exists_and_left, V.int.injEq, V.bl.injEq, V.ref.injEq, V.str.injEq, List.cons.injEq, and_true, true_and, List.nil_append, List.cons_append, List.append_nil, reduceCtorEq, false_and, exists_false, or_false, false_or, and_false, Int.reduceNeg, decide_eq_true_eq, Bool.not_eq_true', decide_eq_false_iff_not, and_assoc, tYes, ↓reduceIte, wipe, Bool.false_eq_true, Bool.true_eq_false, cxOf, false_implies, true_implies, implies_true, forall_const, tBM, rAppend]
        refine ⟨.inl ⟨rfl, _, SqL.of hL3⟩, _, hL3, by rw [ln]; exact Nat.lt_of_le_of_lt (show L0.length + j ≤ 10000 by omega) (by decide), by omega, rfl, fun b o e => ?_, ?_, ?_⟩
        · rw [upd_ne (fq b o e)]
          exact s3 b o e
        · rw [upd_ne (Ne.symm nq)]
          exact hB3
        · rw [upd_same, puts_succ, ← List.append_assoc]
          simp only [List.map_append, List.map_cons, List.map_nil]
          rfl
    · rintro z h' ⟨v, u, hs, rfl, s3, hB3, hL3⟩
      have e : 400 = stp p c 400 A0 := Nat.le_antisymm hs le
      rw [e] at hL3
      rw [show grow p 400 A0 = grow p (stp p c 400 A0) A0 by rw [← e]]
      simp only [tSeq, tAsg, tDrop, tRet, tRetN, tIfS, tNext, tTest, tB, tNot, tAnd, tOr, tChain, tIf, tAndV, tOrV, tNotV, tOp, tUn, tCB, tCons, tNil, tVar, tC, tCall, tCallS, gName, rI, rI0, rU, rEq, rNe, tTup, tLst, gSub, rSetL, rIxL, rIxT, L2.start, List.map_cons, List.map_nil, List.length_cons, List.length_nil, Nat.reduceAdd, Nat.reduceSub, List.replicate_succ, List.replicate_zero, List.getElem?_cons_zero, List.getElem?_cons_succ, List.set_cons_zero, List.set_cons_succ, Option.some.injEq, exists_eq_left', exists_eq_left, exists_and_left, V.int.injEq, V.bl.injEq, V.ref.injEq, V.str.injEq, List.cons.injEq, and_true, true_and, List.nil_append, List.cons_append, List.append_nil, reduceCtorEq, false_and, exists_false, or_false, false_or, and_false, Int.reduceNeg, decide_eq_true_eq, Bool.not_eq_true', decide_eq_false_iff_not, and_assoc, tYes, ↓reduceIte, wipe, Bool.false_eq_true, Bool.true_eq_false, cxOf, false_implies, true_implies, implies_true, forall_const]
      exact ⟨s3, hB3, hL3, by rw [List.length_append, puts_len]; omega⟩
  · rintro z h ⟨v, u, t, rfl, s2, hB, hL, hn⟩
    rw [List.length_map, List.take_length] at hL hn
    simp only [tSeq, tAsg, tDrop, tRet, tRetN, tIfS, tNext, tTest, tB, tNot, tAnd, tOr, tChain, tIf, tAndV, tOrV, tNotV, tOp, tUn, tCB, tCons, tNil, tVar, tC, tCall, tCallS, gName, rI, rI0, rU, rEq, rNe, tTup, tLst, gSub, rSetL, rIxL, rIxT, L2.start, List.map_cons, List.map_nil, List.length_cons, List.length_nil, Nat.reduceAdd, Nat.reduceSub, List.replicate_succ, List.replicate_zero, List.getElem?_cons_zero, List.getElem?_cons_succ, List.set_cons_zero, List.set_cons_succ, Option.some.injEq, exists_eq_left', exists_eq_left, exists_and_left, V.int.injEq, V.bl.injEq, V.ref.injEq, V.str.injEq, List.cons.injEq, and_true, true_and, List.nil_append, List.cons_append, List.append_nil, reduceCtorEq, false_and, exists_false, or_false, false_or, and_false, Int.reduceNeg, decide_eq_true_eq, Bool.not_eq_true', decide_eq_false_iff_not, and_assoc, tYes, ↓reduceIte, wipe, Bool.false_eq_true, Bool.true_eq_false, cxOf, false_implies, true_implies, implies_true, forall_const]
    exact ⟨_, .inl ⟨SqL.of hL, fun l hl2 => k _ l ms (s2.trans (Same.new hl2)) upd_same h1 h2⟩⟩
/-- how many lots there are, as they are counted -/
def manyW (h : Int) : Nat → Int
  | 0 => 1
  | k + 1 => manyW h k * (h + k) / (k + 1)
def sp_l_many_lots (_ : PySem.W.Frag) : Sp := fun vs H Q _ => ∃ c h : Int, vs = [.int c, .int h] ∧ 0 ≤ c ∧ c ≤ 6 ∧ 1 ≤ h ∧ h ≤ 60 ∧ Q (.int (manyW h c.toNat)) H
theorem len_l_many_lots {vs H Q E} (h : sp_l_many_lots K vs H Q E) : vs.length = 2 := by
  obtain ⟨_, _, rfl, _⟩ := h; rfl
theorem ok_l_many_lots {f : Addr} {fd : FuncData} (F : Fun K "_law_many_lots" "_law_many_lots" s_l_many_lots f fd) (T : Txt K mg cBadPool cBadPeople) : FnOk P w K mg base CX0 1 f fd ps_l_many_lots (sp_l_many_lots K) := by
  refine F.ok (k := 0) sc_l_many_lots (fun vs H Q E h => len_l_many_lots h) (fun cdv A outer s H vs Q E hr h => ?_)
  refine ⟨_, (pss_cons (ps_set (i := 2) sc_l_many_lots.nd rfl (Or.inl rfl) pe_int)
      (pss_cons (ps_for PassesOwn.never rfl (pi_range1 (by rfl) T.n_range (pa_cons (pv 0) pa_nil)) (pg_name (i := 3) sc_l_many_lots.nd rfl (Or.inl rfl))
      (pss_one (ps_set (i := 2) sc_l_many_lots.nd rfl (Or.inl rfl) (pe_op op_fdivW (pe_op op_mul (pv 2) (pe_op op_add (pv 1) (pv 3))) (pe_op op_add (pv 3) pe_int)))))
      (pss_one (ps_ret (pv 2))))), ?_⟩
  obtain ⟨c, h, rfl, c0, c6, h1, h60, q⟩ := h
  simp only [tSeq, tAsg, tDrop, tRet, tRetN, tIfS, tNext, tTest, tB, tNot, tAnd, tOr, tChain, tIf, tAndV, tOrV, tNotV, tOp, tUn, tCB, tCons, tNil, tVar, tC, tCall, tCallS, gName, rI, rI0, rU, rEq, rNe, tTup, tLst, gSub, rSetL, rIxL, rIxT, L2.start, List.map_cons, List.map_nil, List.length_cons, List.length_nil, Nat.reduceAdd, Nat.reduceSub, List.replicate_succ, List.replicate_zero, List.getElem?_cons_zero, List.getElem?_cons_succ, List.set_cons_zero, List.set_cons_succ, Option.some.injEq, exists_eq_left', exists_eq_left, exists_and_left, V.int.injEq, V.bl.injEq, V.ref.injEq, V.str.injEq, List.cons.injEq, and_true, true_and, List.nil_append, List.cons_append, List.append_nil, reduceCtorEq, false_and, exists_false, or_false, false_or, and_false, Int.reduceNeg, decide_eq_true_eq, Bool.not_eq_true', decide_eq_false_iff_not, and_assoc, tYes, ↓reduceIte, wipe, Bool.false_eq_true, Bool.true_eq_false, cxOf, false_implies, true_implies, implies_true, forall_const]
  refine ⟨_, rfl, c, rfl, by omega, by omega, for_range (lo := 0) (n := c.toNat) (fun i z H' => ∃ v, z = [some (.int c), some (.int h), some (.int (manyW h i)), v] ∧ H' = H) ⟨none, rfl, rfl⟩ ?_ ?_⟩
  · rintro i z H' hi ⟨v, rfl, rfl⟩
    simp only [tSeq, tAsg, tDrop, tRet, tRetN, tIfS, tNext, tTest, tB, tNot, tAnd, tOr, tChain, tIf, tAndV, tOrV, tNotV, tOp, tUn, tCB, tCons, tNil, tVar, tC, tCall, tCallS, gName, rI, rI0, rU, rEq, rNe, tTup, tLst, gSub, rSetL, rIxL, rIxT, L2.start, List.map_cons, List.map_nil, List.length_cons, List.length_nil, Nat.reduceAdd, Nat.reduceSub, List.replicate_succ, List.replicate_zero, List.getElem?_cons_zero, List.getElem?_cons_succ, List.set_cons_zero, List.set_cons_succ, Option.some.injEq, exists_eq_left', exists_eq_left, exists_and_left, V.int.injEq, V.bl.injEq, V.ref.injEq, V.str.injEq, List.cons.injEq, and_true, true_and, List.nil_append, List.cons_append, List.append_nil, reduceCtorEq, false_and, exists_false, or_false, false_or, and_false, Int.reduceNeg, decide_eq_true_eq, Bool.not_eq_true', decide_eq_false_iff_not, and_assoc, tYes, ↓reduceIte, wipe, Bool.false_eq_true, Bool.true_eq_false, cxOf, false_implies, true_implies, implies_true, forall_const]
    exact ⟨cmr (by omega) (by omega), cdw (by omega) (by omega), by rw [Int.zero_add]; rfl, _, rfl⟩
  · rintro z H' ⟨v, rfl, rfl⟩
    exact ⟨_, rfl, q⟩
end
end My
set_option Elab.async false
set_option linter.all false
set_option maxRecDepth 100000
set_option maxHeartbeats 4000000
namespace My
open PySem PySem.Spec PyProof.Rows L2 Gen
section
variable {P : Program} {w : World} {K : PySem.W.Frag} {mg : Str → Option Value} {base : Heap} { cBadPool cBadPeople : Addr}
theorem shaped_tupI (ns : List Int) : SeqAt.shaped (.tuple (ns.map PyData.int)) = true := by
  have d1 := PySem.W.depthAll_ints ns
  have d2 : PyData.depth (.tuple (ns.map PyData.int)) ≤ 64 := by simp only [PyData.depth]; omega
  show (PyData.canLay0 (.tuple (ns.map PyData.int)) && decide (PyData.depth (.tuple (ns.map PyData.int)) ≤ 64)) = true
  rw [Bool.and_eq_true]
  exact ⟨by simp only [PyData.canLay0]; exact PySem.W.canLayAll0_ints ns, decide_eq_true d2⟩
theorem eqvAll_dec : ∀ ns ms : List Int, PyData.eqvAll (ns.map PyData.int) (ms.map PyData.int) = decide (ns = ms)
  | [], [] => by simp [PyData.eqvAll]
  | [], _ :: _ => by simp [PyData.eqvAll]
  | _ :: _, [] => by simp [PyData.eqvAll]
  | n :: ns, m :: ms => by
    simp only [List.map_cons, PyData.eqvAll, PyData.eqv, eqvAll_dec ns ms]
    by_cases e : n = m <;> simp [e]
/-- two tuples of numbers -/
theorem eq_tupI {H : Hp} {a b : Addr} {ns ms : List Int} {Q : VK} (ha : H a = some (.tup (ns.map V.int))) (hb : H b = some (.tup (ms.map V.int))) (q : Q (.bl (decide (ns = ms))) H) : rEqD K (.ref a) (.ref b) H Q := by
  refine ⟨_, _, .tup (SqT.of ha) (dp_ints ns), .tup (SqT.of hb) (dp_ints ms), shaped_tupI ns, shaped_tupI ms, ?_⟩
  rw [show PyData.eqv (.tuple (ns.map PyData.int)) (.tuple (ms.map PyData.int)) = decide (ns = ms) by simp only [PyData.eqv]; exact eqvAll_dec ns ms]
  exact q
theorem ne_tupI {H : Hp} {a b : Addr} {ns ms : List Int} {Q : VK} (ha : H a = some (.tup (ns.map V.int))) (hb : H b = some (.tup (ms.map V.int))) (q : Q (.bl (!decide (ns = ms))) H) : rNeD K (.ref a) (.ref b) H Q := by
  refine ⟨_, _, .tup (SqT.of ha) (dp_ints ns), .tup (SqT.of hb) (dp_ints ms), shaped_tupI ns, shaped_tupI ms, ?_⟩
  rw [show PyData.eqv (.tuple (ns.map PyData.int)) (.tuple (ms.map PyData.int)) = decide (ns = ms) by simp only [PyData.eqv]; exact eqvAll_dec ns ms]
  exact q
/-- rows of k numbers from 1 -/
def RowsOk (H : Hp) (rs : List Addr) (k : Nat) : Prop := ∀ r, r ∈ rs → ∃ ns : List Int, H r = some (.tup (ns.map V.int)) ∧ ns.length = k ∧ ∀ n, n ∈ ns → 1 ≤ n ∧ n ≤ 60
theorem RowsOk.same {H H' : Hp} {rs : List Addr} {k : Nat} (h : RowsOk H rs k) (s : Same H H') : RowsOk H' rs k := fun r hr => by
  obtain ⟨ns, e, m⟩ := h r hr
  exact ⟨ns, s _ _ e, m⟩
theorem RowsOk.put {H : Hp} {rs : List Addr} {k : Nat} {f : Addr} {xs ys : List V} (h : RowsOk H rs k) (hf : H f = some (.lst xs)) : RowsOk (upd H f (.lst ys)) rs k := fun r hr => by
  obtain ⟨ns, e, m⟩ := h r hr
  exact ⟨ns, by rw [upd_ne (fun z => by rw [z, hf] at e; cases e)]; exact e, m⟩
def sp_l_lots (_ : PySem.W.Frag) : Sp := fun vs H Q _ => ∃ c h : Int, vs = [.int c, .int h] ∧ 0 ≤ c ∧ c ≤ 6 ∧ 1 ≤ h ∧ h ≤ 60 ∧ (∀ k : Nat, k ≤ c.toNat → h.toNat ^ k ≤ 13000000) ∧
  ∀ (H' : Hp) (l : Addr) (rs : List Addr), Same H H' → H' l = some (.lst (rs.map V.ref)) → RowsOk H' rs c.toNat → Q (.ref l) H'
theorem len_l_lots {vs H Q E} (h : sp_l_lots K vs H Q E) : vs.length = 2 := by
  obtain ⟨_, _, rfl, _⟩ := h; rfl
theorem ok_l_lots {f : Addr} {fd : FuncData} (F : Fun K "_law_lots" "_law_lots" s_l_lots f fd) (T : Txt K mg cBadPool cBadPeople) : FnOk P w K mg base CX0 1 f fd ps_l_lots (sp_l_lots K) := by
  refine F.ok (k := 0) sc_l_lots (fun vs H Q E h => len_l_lots h) (fun cdv A outer s H vs Q E hr h => ?_)
  refine ⟨_, (pss_cons (ps_set (i := 2) sc_l_lots.nd rfl (Or.inl rfl) (pe_lst (pa_cons (pe_tup pa_nil) pa_nil)))
      (pss_cons (ps_for PassesOwn.never rfl (pi_range1 (by rfl) T.n_range (pa_cons (pv 0) pa_nil)) (pg_name (i := 3) sc_l_lots.nd rfl (Or.inl rfl))
      (pss_cons (ps_set (i := 4) sc_l_lots.nd rfl (Or.inl rfl) (pe_lst pa_nil))
      (pss_cons (ps_for PassesOwn.never rfl (pi_list (pv 2)) (pg_name (i := 5) sc_l_lots.nd rfl (Or.inl rfl))
      (pss_one (ps_for PassesOwn.never rfl (pi_range2 (by rfl) T.n_range (pa_cons (pe_ifExp (pt_cmpR (op_neD hr.units) (pv 5) (pe_tup pa_nil) (nomark _)) (pe_ix ix_tup (pv 5) (pe_un un_neg pe_int) (fun _ _ => rfl)) pe_int) (pa_cons (pe_op op_add (pv 1) pe_int) pa_nil))) (pg_name (i := 6) sc_l_lots.nd rfl (Or.inl rfl))
      (pss_one (ps_expr (pe_bm PySem.F.plainAttrs_list PySem.F.slot_list_append PySem.F.type_list_append mt_append (pv 4) (pa_cons (pe_op op_catA (pv 5) (pe_tup (pa_cons (pv 6) pa_nil))) pa_nil)))))))
      (pss_one (ps_set (i := 2) sc_l_lots.nd rfl (Or.inl rfl) (pe_callTy call_list_of (by rfl) T.n_list (by decide +kernel) (pa_cons (pv 4) pa_nil)))))))
      (pss_one (ps_ret (pv 2))))), ?_⟩
  obtain ⟨c, h, rfl, c0, c6, h1, h60, hb, k⟩ := h
  simp only [tSeq, tAsg, tDrop, tRet, tRetN, tIfS, tNext, tTest, tB, tNot, tAnd, tOr, tChain, tIf, tAndV, tOrV, tNotV, tOp, tUn, tCB, tCons, tNil, tVar, tC, tCall, tCallS, gName, rI, rI0, rU, rEq, rNe, tTup, tLst, gSub, rSetL, rIxL, rIxT, L2.start, List.map_cons, List.map_nil, List.length_cons, List.length_nil, Nat.reduceAdd, Nat.reduceSub, List.replicate_succ, List.replicate_zero, List.getElem?_cons_zero, List.getElem?_cons_succ, List.set_cons_zero, List.set_cons_succ, Option.some.injEq, exists_eq_left', exists_eq_left, exists_and_left, V.int.injEq, V.bl.injEq, V.ref.injEq, V.str.injEq, List.cons.injEq, and_true, true_and, List.nil_append, List.cons_append, List.append_nil, reduceCtorEq, false_and, exists_false, or_false, false_or, and_false, Int.reduceNeg, decide_eq_true_eq, Bool.not_eq_true', decide_eq_false_iff_not, and_assoc, tYes, ↓reduceIte, wipe, Bool.false_eq_true, Bool.true_eq_false, cxOf, false_implies, true_implies, implies_true, forall_const]
  refine ⟨Nat.zero_le _, fun e he => ⟨(show 1 ≤ sizeLine by decide), fun l hl => ?_⟩⟩
  have s0 := (Same.new (o := HO.tup []) he).trans (Same.new (o := HO.lst [V.ref e]) hl)
  refine ⟨_, rfl, c, rfl, by omega, by omega, for_range (lo := 0) (n := c.toNat) (fun i z hp => ∃ (rl : Addr) (cur : List Addr) (v3 v4 v5 v6 : Option V), z = [some (.int c), some (.int h), some (.ref rl), v3, v4, v5, v6] ∧ Same H hp ∧ hp rl = some (.lst (cur.map V.ref)) ∧ RowsOk hp cur i ∧ cur.length ≤ h.toNat ^ i)
    ⟨l, [e], none, none, none, none, rfl, s0, upd_same, fun r hr => ⟨[], ?_, rfl, fun n hn => absurd hn List.not_mem_nil⟩, Nat.le_refl _⟩ ?_ ?_⟩
  · rw [List.mem_singleton.mp hr]
    exact (Same.new (o := HO.lst [V.ref e]) hl) _ _ upd_same
  · rintro i z hp hi ⟨rl, cur, v3, v4, v5, v6, rfl, s, eR, ok, ln⟩
    simp only [tSeq, tAsg, tDrop, tRet, tRetN, tIfS, tNext, tTest, tB, tNot, tAnd, tOr, tChain, tIf, tAndV, tOrV, tNotV, tOp, tUn, tCB, tCons, tNil, tVar, tC, tCall, tCallS, gName, rI, rI0, rU, rEq, rNe, tTup, tLst, gSub, rSetL, rIxL, rIxT, L2.start, List.map_cons, List.map_nil, List.length_cons, List.length_nil, Nat.reduceAdd, Nat.reduceSub, List.replicate_succ, List.replicate_zero, List.getElem?_cons_zero, List.getElem?_cons_succ, List.set_cons_zero, List.set_cons_succ, Option.some.injEq, exists_eq_left', exists_eq_left, exists_and_left, V.int.injEq, V.bl.injEq, V.ref.injEq, V.str.injEq, List.cons.injEq, and_true, true_and, List.nil_append, List.cons_append, List.append_nil, reduceCtorEq, false_and, exists_false, or_false, false_or, and_false, Int.reduceNeg, decide_eq_true_eq, Bool.not_eq_true', decide_eq_false_iff_not, and_assoc, tYes, ↓reduceIte, wipe, Bool.false_eq_true, Bool.true_eq_false, cxOf, false_implies, true_implies, implies_true, forall_const]
    refine ⟨Nat.zero_le _, fun f hf => ?_⟩
    have nf : rl ≠ f := ne_of_none eR hf
    have sf := Same.new (o := HO.lst []) hf
    have fH : H f = none := Same.free s hf
    refine ⟨_, rfl, rl, rfl, ⟨_, SqL.of (sf _ _ eR)⟩, for_list (K := K) (a := rl) (xs := cur.map V.ref) (fun j z h2 => ∃ (fs : List Addr) (v5 v6 : Option V), z = [some (.int c), some (.int h), some (.ref rl), some (.int (0 + (i : Nat))), some (.ref f), v5, v6] ∧ Same H h2 ∧ h2 rl = some (.lst (cur.map V.ref)) ∧ RowsOk h2 cur i ∧
      h2 f = some (.lst (fs.map V.ref)) ∧ RowsOk h2 fs (i + 1) ∧ fs.length ≤ j * h.toNat)
      ⟨[], v5, v6, rfl, s.trans sf, sf _ _ eR, ok.same sf, upd_same, fun r hr => absurd hr List.not_mem_nil, Nat.zero_le _⟩ (fun j z h2 _ ⟨_, _, _, _, _, e, _⟩ => SqL.of e) ?_ ?_⟩
    · rintro j x z h2 hj ⟨fs, v5, v6, rfl, s2, eR2, ok2, eF, okF, lnF⟩
      have hx : ∃ r, r ∈ cur ∧ x = V.ref r := by
        have hm := List.mem_of_getElem? hj
        obtain ⟨r, hr, rfl⟩ := List.mem_map.mp hm
        exact ⟨r, hr, rfl⟩
      obtain ⟨r, hr, rfl⟩ := hx
      obtain ⟨ns, er, nl, n1⟩ := ok2 r hr
      refine ⟨_, rfl, Nat.zero_le _, fun p hp2 => ne_tupI (ms := []) (ns := ns) ((Same.new hp2) _ _ er) upd_same ⟨_, rfl, ?_⟩⟩
      have sp2 := Same.new (o := HO.tup []) hp2
      have jl : j < cur.length := by
        have z := (List.getElem?_eq_some_iff.mp hj).1
        rwa [List.length_map] at z
      have hi6 : i < 6 := by omega
      have big : j * h.toNat + h.toNat ≤ 13000000 := by
        have b1 := hb (i + 1) (by omega)
        rw [Nat.pow_succ] at b1
        have b2 : (j + 1) * h.toNat ≤ h.toNat ^ i * h.toNat := Nat.mul_le_mul_right _ (by omega)
        rw [Nat.succ_mul] at b2
        omega
      have up : (j + 1) * h.toNat = j * h.toNat + h.toNat := Nat.succ_mul _ _
      rw [up]
      by_cases en : ns = []
      · rw [decide_eq_true en]
        refine ⟨_, rfl, _, _, rfl, rfl, 1, h + 1, rfl, ⟨by decide, by decide, by omega, by omega⟩, ?_⟩
        subst en
        refine for_range (lo := 1) (n := (h + 1 - (1)).toNat) (fun m z h3 => ∃ (gs : List Addr) (v6 : Option V), z = [some (.int c), some (.int h), some (.ref rl), some (.int (0 + (i : Nat))), some (.ref f), some (.ref r), v6] ∧ Same H h3 ∧ h3 rl = some (.lst (cur.map V.ref)) ∧ RowsOk h3 cur i ∧
          h3 r = some (.tup (([] : List Int).map V.int)) ∧ h3 f = some (.lst (gs.map V.ref)) ∧ RowsOk h3 gs (i + 1) ∧ gs.length ≤ j * h.toNat + m)
          ⟨fs, v6, rfl, s2.trans sp2, sp2 _ _ eR2, ok2.same sp2, sp2 _ _ er, sp2 _ _ eF, okF.same sp2, lnF⟩ ?_ ?_
        · rintro m z h3 hm ⟨gs, v6, rfl, s3, eR3, ok3, er3, eF3, okG, lnG⟩
          have fill : ∀ (H4 : Hp) (r2 : Addr), Same h3 H4 → H4 r2 = some (.tup ((([] : List Int) ++ [(1 : Int) + ((m : Nat) : Int)]).map V.int)) → (gs.map V.ref).length < sizeLine ∧ Same H (upd H4 f (.lst (gs.map V.ref ++ [V.ref r2]))) ∧ upd H4 f (.lst (gs.map V.ref ++ [V.ref r2])) rl = some (.lst (cur.map V.ref)) ∧
              RowsOk (upd H4 f (.lst (gs.map V.ref ++ [V.ref r2]))) cur i ∧ upd H4 f (.lst (gs.map V.ref ++ [V.ref r2])) r = some (.tup (([] : List Int).map V.int)) ∧ ∃ x, upd H4 f (.lst (gs.map V.ref ++ [V.ref r2])) f = some (.lst (x.map V.ref)) ∧ RowsOk (upd H4 f (.lst (gs.map V.ref ++ [V.ref r2]))) x (i + 1) ∧ x.length ≤ j * h.toNat + (m + 1) := fun H4 r2 s4 e4 => by
            have eF4 := s4 _ _ eF3
            refine ⟨by rw [List.length_map]; exact Nat.lt_of_le_of_lt (show gs.length ≤ 13000000 by omega) (by decide), fun b o q => ?_, ?_, (ok3.same s4).put eF4, ?_, gs ++ [r2], ?_, fun x hx => ?_, ?_⟩
            · rw [upd_ne (ne_of_none q fH)]
              exact s4 _ _ (s3 b o q)
            · rw [upd_ne nf]
              exact s4 _ _ eR3
            · have e5 := s4 _ _ er3
              rw [upd_ne (fun z => by rw [z, eF4] at e5; cases e5)]
              exact e5
            · rw [upd_same, List.map_append]
              rfl
            · rcases List.mem_append.mp hx with hx | hx
              · exact ((okG.same s4).put eF4) x hx
              · rw [List.mem_singleton.mp hx]
                refine ⟨([] : List Int) ++ [(1 : Int) + ((m : Nat) : Int)], by rw [upd_ne (fun z => by rw [z, eF4] at e4; cases e4)]; exact e4, by rw [List.length_append, nl]; rfl, fun n hn => ?_⟩
                rcases List.mem_append.mp hn with hn | hn
                · exact n1 n hn
                · rw [List.mem_singleton.mp hn]
                  omega
            · rw [List.length_append]
              show gs.length + 1 ≤ _
              omega
          simp only [tSeq, tAsg, tDrop, tRet, tRetN, tIfS, tNext, tTest, tB, tNot, tAnd, tOr, tChain, tIf, tAndV, tOrV, tNotV, tOp, tUn, tCB, tCons, tNil, tVar, tC, tCall, tCallS, gName, rI, rI0, rU, rEq, rNe, tTup, tLst, gSub, rSetL, rIxL, rIxT, L2.start, List.map_cons, List.map_nil, List.length_cons, List.length_nil, Nat.reduceAdd, Nat.reduceSub, List.replicate_succ, List.replicate_zero, List.getElem?_cons_zero, List.getElem?_cons_succ, List.set_cons_zero, List.set_cons_succ, Option.some.injEq, exists_eq_left', exists_eq_left, exists_and_left, V.int.injEq, V.bl.injEq, V.ref.injEq, V.str.injEq, List.cons.injEq, and_true, true_and, List.nil_append, List.cons_append, List.append_nil, reduceCtorEq, false_and, exists_false, or_false, false_or, and_false, Int.reduceNeg, decide_eq_true_eq, Bool.not_eq_true', decide_eq_false_iff_not, and_assoc, tYes, ↓reduceIte, wipe, Bool.false_eq_true, Bool.true_eq_false, cxOf, false_implies, true_implies, implies_true, forall_const, tBM, rAppend]
          refine ⟨.inl ⟨rfl, _, SqL.of eF3⟩, (show 1 ≤ sizeLine by decide), fun pc hpc => ?_⟩
          have sc := Same.new (o := HO.tup [V.int ((1 : Int) + ((m : Nat) : Int))]) hpc
          refine ⟨_, _, _, _, rfl, rfl, SqT.of (sc _ _ er3), SqT.of upd_same, Nat.le_of_lt (Nat.lt_of_le_of_lt (show 0 + 1 ≤ 10 by decide) (by decide)), fun _ => ?_, fun z => absurd rfl z, fun z => absurd rfl z⟩
          exact ⟨_, sc _ _ eF3, fill _ pc sc upd_same⟩
        · rintro z h3 ⟨gs, v6, rfl, s3, eR3, ok3, er3, eF3, okG, lnG⟩
          simp only [tSeq, tAsg, tDrop, tRet, tRetN, tIfS, tNext, tTest, tB, tNot, tAnd, tOr, tChain, tIf, tAndV, tOrV, tNotV, tOp, tUn, tCB, tCons, tNil, tVar, tC, tCall, tCallS, gName, rI, rI0, rU, rEq, rNe, tTup, tLst, gSub, rSetL, rIxL, rIxT, L2.start, List.map_cons, List.map_nil, List.length_cons, List.length_nil, Nat.reduceAdd, Nat.reduceSub, List.replicate_succ, List.replicate_zero, List.getElem?_cons_zero, List.getElem?_cons_succ, List.set_cons_zero, List.set_cons_succ, Option.some.injEq, exists_eq_left', exists_eq_left, exists_and_left, V.int.injEq, V.bl.injEq, V.ref.injEq, V.str.injEq, List.cons.injEq, and_true, true_and, List.nil_append, List.cons_append, List.append_nil, reduceCtorEq, false_and, exists_false, or_false, false_or, and_false, Int.reduceNeg, decide_eq_true_eq, Bool.not_eq_true', decide_eq_false_iff_not, and_assoc, tYes, ↓reduceIte, wipe, Bool.false_eq_true, Bool.true_eq_false, cxOf, false_implies, true_implies, implies_true, forall_const]
          exact ⟨s3, eR3, ok3, gs, eF3, okG, by omega⟩
      · rw [decide_eq_false en]
        obtain ⟨us, la, rfl⟩ : ∃ us la, ns = us ++ [la] := ⟨ns.dropLast, ns.getLast en, (List.dropLast_concat_getLast en).symm⟩
        have la1 := n1 la (by simp)
        refine ⟨_, rfl, _, rfl, _, _, _, _, rfl, rfl, SqT.of ((Same.new hp2) _ _ er), by rw [List.map_append]; exact atI_last _ _, _, rfl, _, _, rfl, rfl, la, h + 1, rfl, ⟨by omega, by omega, by omega, by omega⟩, ?_⟩
        refine for_range (lo := la) (n := (h + 1 - (la)).toNat) (fun m z h3 => ∃ (gs : List Addr) (v6 : Option V), z = [some (.int c), some (.int h), some (.ref rl), some (.int (0 + (i : Nat))), some (.ref f), some (.ref r), v6] ∧ Same H h3 ∧ h3 rl = some (.lst (cur.map V.ref)) ∧ RowsOk h3 cur i ∧
          h3 r = some (.tup ((us ++ [la]).map V.int)) ∧ h3 f = some (.lst (gs.map V.ref)) ∧ RowsOk h3 gs (i + 1) ∧ gs.length ≤ j * h.toNat + m)
          ⟨fs, v6, rfl, s2.trans sp2, sp2 _ _ eR2, ok2.same sp2, sp2 _ _ er, sp2 _ _ eF, okF.same sp2, lnF⟩ ?_ ?_
        · rintro m z h3 hm ⟨gs, v6, rfl, s3, eR3, ok3, er3, eF3, okG, lnG⟩
          have fill : ∀ (H4 : Hp) (r2 : Addr), Same h3 H4 → H4 r2 = some (.tup (((us ++ [la]) ++ [la + ((m : Nat) : Int)]).map V.int)) → (gs.map V.ref).length < sizeLine ∧ Same H (upd H4 f (.lst (gs.map V.ref ++ [V.ref r2]))) ∧ upd H4 f (.lst (gs.map V.ref ++ [V.ref r2])) rl = some (.lst (cur.map V.ref)) ∧
              RowsOk (upd H4 f (.lst (gs.map V.ref ++ [V.ref r2]))) cur i ∧ upd H4 f (.lst (gs.map V.ref ++ [V.ref r2])) r = some (.tup ((us ++ [la]).map V.int)) ∧ ∃ x, upd H4 f (.lst (gs.map V.ref ++ [V.ref r2])) f = some (.lst (x.map V.ref)) ∧ RowsOk (upd H4 f (.lst (gs.map V.ref ++ [V.ref r2]))) x (i + 1) ∧ x.length ≤ j * h.toNat + (m + 1) := fun H4 r2 s4 e4 => by
            have eF4 := s4 _ _ eF3
            refine ⟨by rw [List.length_map]; exact Nat.lt_of_le_of_lt (show gs.length ≤ 13000000 by omega) (by decide), fun b o q => ?_, ?_, (ok3.same s4).put eF4, ?_, gs ++ [r2], ?_, fun x hx => ?_, ?_⟩
            · rw [upd_ne (ne_of_none q fH)]
              exact s4 _ _ (s3 b o q)
            · rw [upd_ne nf]
              exact s4 _ _ eR3
            · have e5 := s4 _ _ er3
              rw [upd_ne (fun z => by rw [z, eF4] at e5; cases e5)]
              exact e5
            · rw [upd_same, List.map_append]
              rfl
            · rcases List.mem_append.mp hx with hx | hx
              · exact ((okG.same s4).put eF4) x hx
              · rw [List.mem_singleton.mp hx]
                refine ⟨(us ++ [la]) ++ [la + ((m : Nat) : Int)], by rw [upd_ne (fun z => by rw [z, eF4] at e4; cases e4)]; exact e4, by rw [List.length_append, nl]; rfl, fun n hn => ?_⟩
                rcases List.mem_append.mp hn with hn | hn
                · exact n1 n hn
                · rw [List.mem_singleton.mp hn]
                  omega
            · rw [List.length_append]
              show gs.length + 1 ≤ _
              omega
          simp only [tSeq, tAsg, tDrop, tRet, tRetN, tIfS, tNext, tTest, tB, tNot, tAnd, tOr, tChain, tIf, tAndV, tOrV, tNotV, tOp, tUn, tCB, tCons, tNil, tVar, tC, tCall, tCallS, gName, rI, rI0, rU, rEq, rNe, tTup, tLst, gSub, rSetL, rIxL, rIxT, L2.start, List.map_cons, List.map_nil, List.length_cons, List.length_nil, Nat.reduceAdd, Nat.reduceSub, List.replicate_succ, List.replicate_zero, List.getElem?_cons_zero, List.getElem?_cons_succ, List.set_cons_zero, List.set_cons_succ, Option.some.injEq, exists_eq_left', exists_eq_left, exists_and_left, V.int.injEq, V.bl.injEq, V.ref.injEq, V.str.injEq, List.cons.injEq, and_true, true_and, List.nil_append, List.cons_append, List.append_nil, reduceCtorEq, false_and, exists_false, or_false, false_or, and_false, Int.reduceNeg, decide_eq_true_eq, Bool.not_eq_true', decide_eq_false_iff_not, and_assoc, tYes, ↓reduceIte, wipe, Bool.false_eq_true, Bool.true_eq_false, cxOf, false_implies, true_implies, implies_true, forall_const, tBM, rAppend]
          refine ⟨.inl ⟨rfl, _, SqL.of eF3⟩, (show 1 ≤ sizeLine by decide), fun pc hpc => ?_⟩
          have sc := Same.new (o := HO.tup [V.int (la + ((m : Nat) : Int))]) hpc
          refine ⟨_, _, _, _, rfl, rfl, SqT.of (sc _ _ er3), SqT.of upd_same, ?_, fun z => absurd z (by simp), fun _ z => absurd z (by simp), fun _ _ pd hpd => ?_⟩
          · rw [List.length_map, nl]
            exact Nat.le_of_lt (Nat.lt_of_le_of_lt (show i + 1 ≤ 10 by omega) (by decide))
          · have sd := sc.trans (Same.new (o := HO.tup ((us ++ [la]).map V.int ++ [V.int (la + ((m : Nat) : Int))])) hpd)
            refine ⟨_, sd _ _ eF3, fill _ pd sd ?_⟩
            rw [upd_same, List.map_append (l₁ := us ++ [la])]
            rfl
        · rintro z h3 ⟨gs, v6, rfl, s3, eR3, ok3, er3, eF3, okG, lnG⟩
          simp only [tSeq, tAsg, tDrop, tRet, tRetN, tIfS, tNext, tTest, tB, tNot, tAnd, tOr, tChain, tIf, tAndV, tOrV, tNotV, tOp, tUn, tCB, tCons, tNil, tVar, tC, tCall, tCallS, gName, rI, rI0, rU, rEq, rNe, tTup, tLst, gSub, rSetL, rIxL, rIxT, L2.start, List.map_cons, List.map_nil, List.length_cons, List.length_nil, Nat.reduceAdd, Nat.reduceSub, List.replicate_succ, List.replicate_zero, List.getElem?_cons_zero, List.getElem?_cons_succ, List.set_cons_zero, List.set_cons_succ, Option.some.injEq, exists_eq_left', exists_eq_left, exists_and_left, V.int.injEq, V.bl.injEq, V.ref.injEq, V.str.injEq, List.cons.injEq, and_true, true_and, List.nil_append, List.cons_append, List.append_nil, reduceCtorEq, false_and, exists_false, or_false, false_or, and_false, Int.reduceNeg, decide_eq_true_eq, Bool.not_eq_true', decide_eq_false_iff_not, and_assoc, tYes, ↓reduceIte, wipe, Bool.false_eq_true, Bool.true_eq_false, cxOf, false_implies, true_implies, implies_true, forall_const]
          exact ⟨s3, eR3, ok3, gs, eF3, okG, by omega⟩
    · rintro z h2 ⟨fs, v5, v6, rfl, s2, eR2, ok2, eF, okF, lnF⟩
      simp only [tSeq, tAsg, tDrop, tRet, tRetN, tIfS, tNext, tTest, tB, tNot, tAnd, tOr, tChain, tIf, tAndV, tOrV, tNotV, tOp, tUn, tCB, tCons, tNil, tVar, tC, tCall, tCallS, gName, rI, rI0, rU, rEq, rNe, tTup, tLst, gSub, rSetL, rIxL, rIxT, L2.start, List.map_cons, List.map_nil, List.length_cons, List.length_nil, Nat.reduceAdd, Nat.reduceSub, List.replicate_succ, List.replicate_zero, List.getElem?_cons_zero, List.getElem?_cons_succ, List.set_cons_zero, List.set_cons_succ, Option.some.injEq, exists_eq_left', exists_eq_left, exists_and_left, V.int.injEq, V.bl.injEq, V.ref.injEq, V.str.injEq, List.cons.injEq, and_true, true_and, List.nil_append, List.cons_append, List.append_nil, reduceCtorEq, false_and, exists_false, or_false, false_or, and_false, Int.reduceNeg, decide_eq_true_eq, Bool.not_eq_true', decide_eq_false_iff_not, and_assoc, tYes, ↓reduceIte, wipe, Bool.false_eq_true, Bool.true_eq_false, cxOf, false_implies, true_implies, implies_true, forall_const]
      refine ⟨_, .inl (SqL.of eF), fun l2 hl2 => ⟨s2.trans (Same.new hl2), fs, upd_same, okF.same (Same.new hl2), ?_⟩⟩
      rw [List.length_map] at lnF
      exact Nat.le_trans lnF (by rw [Nat.pow_succ]; exact Nat.mul_le_mul_right _ ln)
  · rintro z hp ⟨rl, cur, v3, v4, v5, v6, rfl, s, eR, ok, ln⟩
    exact ⟨_, rfl, k hp rl cur s eR ok⟩
end
end My
set_option Elab.async false
set_option linter.all false
set_option maxRecDepth 100000
set_option maxHeartbeats 4000000
namespace My
open PySem PySem.Spec PyProof.Rows L2 Gen
section
variable {P : Program} {w : World} {K : PySem.W.Frag} {mg : Str → Option Value} {base : Heap} { cBadPool cBadPeople : Addr}
theorem eq_listI {H : Hp} {a b : Addr} {ns ms : List Int} {Q : VK} (ha : SqL K H a (ns.map V.int)) (hb : SqL K H b (ms.map V.int)) (q : Q (.bl (decide (ns = ms))) H) : rEqD K (.ref a) (.ref b) H Q := by
  refine ⟨_, _, .lst ha (dp_ints ns), .lst hb (dp_ints ms), PySem.W.shaped_ints ns, PySem.W.shaped_ints ms, ?_⟩
  rw [show PyData.eqv (.list (ns.map PyData.int)) (.list (ms.map PyData.int)) = decide (ns = ms) by simp only [PyData.eqv]; exact eqvAll_dec ns ms]
  exact q
theorem ne_listI {H : Hp} {a b : Addr} {ns ms : List Int} {Q : VK} (ha : SqL K H a (ns.map V.int)) (hb : SqL K H b (ms.map V.int)) (q : Q (.bl (!decide (ns = ms))) H) : rNeD K (.ref a) (.ref b) H Q := by
  refine ⟨_, _, .lst ha (dp_ints ns), .lst hb (dp_ints ms), PySem.W.shaped_ints ns, PySem.W.shaped_ints ms, ?_⟩
  rw [show PyData.eqv (.list (ns.map PyData.int)) (.list (ms.map PyData.int)) = decide (ns = ms) by simp only [PyData.eqv]; exact eqvAll_dec ns ms]
  exact q
theorem cut_to (ns : List Int) (j : Nat) : cutV (ns.map V.int) none (some (j : Int)) = (ns.take j).map V.int := by
  unfold cutV
  rw [HT.sIx_none, HT.sIx_nat, List.length_map, List.drop_zero, Nat.sub_zero, ← List.map_take]
  congr 1
  rw [Nat.min_def]
  split
  · rfl
  · rw [List.take_length, List.take_of_length_le (by omega)]
theorem cut_from (ns : List Int) (j : Nat) : cutV (ns.map V.int) (some ((j : Int) + 1)) none = (ns.drop (j + 1)).map V.int := by
  unfold cutV
  have e : (j : Int) + 1 = ((j + 1 : Nat) : Int) := by omega
  rw [e, HT.sIx_none, HT.sIx_nat, List.length_map, ← List.map_drop, ← List.map_take]
  congr 1
  rw [Nat.min_def]
  split
  · rw [List.take_of_length_le (by rw [List.length_drop]; omega)]
  · rw [List.drop_length, List.drop_eq_nil_of_le (by omega), List.take_nil]
theorem mem_cut {ns : List Int} {j m : Nat} {x : Int} (h : x ∈ ns.take j ++ ns.drop m) : x ∈ ns := by
  rcases List.mem_append.mp h with h | h
  · exact List.mem_of_mem_take h
  · exact List.mem_of_mem_drop h
theorem handOffq {H : Hp} {h q p : Addr} (x : HandAt H h q) (hp : H p = none) : p ≠ q := by
  obtain ⟨cs, i, r, t, _, h2, _⟩ := x.ex
  exact fun z => by rw [z, h2] at hp; cases hp
theorem handPut {H : Hp} {h q p : Addr} {o : HO} (x : HandAt H h q) (n1 : p ≠ h) (n2 : p ≠ q) : HandAt (upd H p o) h q := by
  obtain ⟨cs, i, r, t, h1, h2, m⟩ := x.ex
  exact ⟨cs, i, r, t, by rw [upd_ne (Ne.symm n1)]; exact h1, by rw [upd_ne (Ne.symm n2)]; exact h2, m⟩
/-- what stood stands, but for the hand, when a new thing changes -/
theorem butAt {h D : Addr} {H H' : Hp} {o : HO} (b : But h H H') (hD : H D = none) : But h H (upd H' D o) := fun c u e n => by
  rw [upd_ne (ne_of_none e hD)]
  exact b c u e n
/-- a list of coins that a def hands over, with the hand as a hand -/
def Gives (h q : Addr) (n : Nat) (H : Hp) (Q : VK) : Prop := ∀ (H' : Hp) (b : Addr) (ms : List Int), HandAt H' h q → But h H H' → H' b = some (.lst (ms.map V.int)) → b ≠ h → ms.length ≤ n → (∀ m, m ∈ ms → 1 ≤ m ∧ m ≤ 1000000000) → Q (.ref b) H'
def sp_l_small (_ : PySem.W.Frag) : Sp := fun vs H Q _ => ∃ (h q : Addr), vs = [.ref h] ∧ HandAt H h q ∧ Gives h q 12 H Q
theorem len_l_small {vs H Q E} (h : sp_l_small K vs H Q E) : vs.length = 1 := by
  obtain ⟨_, _, rfl, _⟩ := h; rfl
theorem ok_l_small {f : Addr} {fd : FuncData} (F : Fun K "_law_small" "_law_small" s_l_small f fd) (T : Txt K mg cBadPool cBadPeople) : FnOk P w K mg base CX0 3 f fd ps_l_small (sp_l_small K) := by
  obtain ⟨f_l_draw, fd_l_draw, F_l_draw, m_l_draw, b_l_draw⟩ := T.d_l_draw
  have G_l_draw : FnOk P w K mg base CX0 2 f_l_draw fd_l_draw ps_l_draw (sp_l_draw K) := ok_l_draw F_l_draw T
  refine F.ok (k := 2) sc_l_small (fun vs H Q E h => len_l_small h) (fun cdv A outer s H vs Q E hr h => ?_)
  refine ⟨_, (pss_cons (ps_set (i := 1) sc_l_small.nd rfl (Or.inl rfl) (pe_call G_l_draw (hr.mono (by decide)) (by rfl) m_l_draw F_l_draw.kp b_l_draw .nil pass0 (pa_cons (pv 0) (pa_cons pe_int pa_nil))))
      (pss_cons (ps_set (i := 2) sc_l_small.nd rfl (Or.inr rfl) (pe_op op_add pe_int (pe_call G_l_draw (hr.mono (by decide)) (by rfl) m_l_draw F_l_draw.kp b_l_draw .nil pass0 (pa_cons (pv 0) (pa_cons pe_int pa_nil)))))
      (pss_one (ps_ret (pe_lc (own := [("_law_k", 3)]) (g := gName 3) (tt := tYes) rfl sc_l_small.nd (pi_range1 (by rfl) T.n_range (pa_cons (pv 1) pa_nil)) (blkOk_by (N := nm_l_small) (sc := defScope s_l_small) (by decide +kernel)) (fun _ _ _ _ _ => (pg_name (i := 3) sc_l_small.nd rfl (Or.inl rfl))) (fun _ _ _ _ _ => pts_nil) (fun _ _ _ _ _ => (pe_op op_add pe_int (pe_call G_l_draw (hr.mono (by decide)) (by rfl) m_l_draw F_l_draw.kp b_l_draw .nil pass0 (pa_cons (pv 0) (pa_cons (pv 2) pa_nil)))))))))), ?_⟩
  obtain ⟨h, q, rfl, hh, k⟩ := h
  simp only [tSeq, tAsg, tDrop, tRet, tRetN, tIfS, tNext, tTest, tB, tNot, tAnd, tOr, tChain, tIf, tAndV, tOrV, tNotV, tOp, tUn, tCB, tCons, tNil, tVar, tC, tCall, tCallS, gName, rI, rI0, rU, rEq, rNe, tTup, tLst, gSub, rSetL, rIxL, rIxT, L2.start, List.map_cons, List.map_nil, List.length_cons, List.length_nil, Nat.reduceAdd, Nat.reduceSub, List.replicate_succ, List.replicate_zero, List.getElem?_cons_zero, List.getElem?_cons_succ, List.set_cons_zero, List.set_cons_succ, Option.some.injEq, exists_eq_left', exists_eq_left, exists_and_left, V.int.injEq, V.bl.injEq, V.ref.injEq, V.str.injEq, List.cons.injEq, and_true, true_and, List.nil_append, List.cons_append, List.append_nil, reduceCtorEq, false_and, exists_false, or_false, false_or, and_false, Int.reduceNeg, decide_eq_true_eq, Bool.not_eq_true', decide_eq_false_iff_not, and_assoc, tYes, ↓reduceIte, wipe, Bool.false_eq_true, Bool.true_eq_false, cxOf, false_implies, true_implies, implies_true, forall_const, spDraw]
  refine ⟨q, hh, by decide, by decide, fun d H1 d0 d1 hh1 b1 => ⟨q, hh1, by decide, by decide, fun e H2 e0 e1 hh2 b2 => ?_⟩⟩
  refine ⟨_, rfl, d, rfl, by omega, by omega, fun D hD => ?_⟩
  have n1 := hh2.off hD
  have n2 := handOffq hh2 hD
  refine lc_range (lo := 0) (n := d.toNat) (fun i H' => ∃ ms : List Int, HandAt H' h q ∧ But h H2 H' ∧ H' D = some (.lst (ms.map V.int)) ∧ ms.length = i ∧ ∀ m, m ∈ ms → 1 ≤ m ∧ m ≤ 1000000000) ⟨[], hh2.same (Same.new hD), But.new hD, upd_same, rfl, fun m hm => absurd hm List.not_mem_nil⟩ ?_ ?_
  · rintro i H' hi ⟨ms, hd, bt, eD, ln, mb⟩
    simp only [tSeq, tAsg, tDrop, tRet, tRetN, tIfS, tNext, tTest, tB, tNot, tAnd, tOr, tChain, tIf, tAndV, tOrV, tNotV, tOp, tUn, tCB, tCons, tNil, tVar, tC, tCall, tCallS, gName, rI, rI0, rU, rEq, rNe, tTup, tLst, gSub, rSetL, rIxL, rIxT, L2.start, List.map_cons, List.map_nil, List.length_cons, List.length_nil, Nat.reduceAdd, Nat.reduceSub, List.replicate_succ, List.replicate_zero, List.getElem?_cons_zero, List.getElem?_cons_succ, List.set_cons_zero, List.set_cons_succ, Option.some.injEq, exists_eq_left', exists_eq_left, exists_and_left, V.int.injEq, V.bl.injEq, V.ref.injEq, V.str.injEq, List.cons.injEq, and_true, true_and, List.nil_append, List.cons_append, List.append_nil, reduceCtorEq, false_and, exists_false, or_false, false_or, and_false, Int.reduceNeg, decide_eq_true_eq, Bool.not_eq_true', decide_eq_false_iff_not, and_assoc, tYes, ↓reduceIte, wipe, Bool.false_eq_true, Bool.true_eq_false, cxOf, false_implies, true_implies, implies_true, forall_const, spDraw]
    refine ⟨q, hd, by omega, by omega, fun x H3 x0 x1 hd3 b3 => ⟨_, b3 _ _ eD n1, by rw [List.length_map]; exact small1000 (by omega), handPut hd3 n1 n2, butAt (bt.trans b3) hD, ms ++ [1 + x], ?_, by rw [List.length_append, ln]; rfl, fun m hm => ?_⟩⟩
    · rw [upd_same, List.map_append]
      rfl
    · rcases List.mem_append.mp hm with hm | hm
      · exact mb m hm
      · rw [List.mem_singleton.mp hm]
        exact ⟨by omega, by omega⟩
  · rintro H' ⟨ms, hd, bt, eD, ln, mb⟩
    exact k H' D ms hd ((b1.trans b2).trans bt) eD n1 (by omega) mb
def sp_l_far (_ : PySem.W.Frag) : Sp := fun vs H Q _ => ∃ (h q : Addr), vs = [.ref h] ∧ HandAt H h q ∧ Gives h q 12 H Q
theorem len_l_far {vs H Q E} (h : sp_l_far K vs H Q E) : vs.length = 1 := by
  obtain ⟨_, _, rfl, _⟩ := h; rfl
theorem ok_l_far {f : Addr} {fd : FuncData} (F : Fun K "_law_far" "_law_far" s_l_far f fd) (T : Txt K mg cBadPool cBadPeople) : FnOk P w K mg base CX0 4 f fd ps_l_far (sp_l_far K) := by
  obtain ⟨f_l_draw, fd_l_draw, F_l_draw, m_l_draw, b_l_draw⟩ := T.d_l_draw
  have G_l_draw : FnOk P w K mg base CX0 2 f_l_draw fd_l_draw ps_l_draw (sp_l_draw K) := ok_l_draw F_l_draw T
  obtain ⟨f_l_pick, fd_l_pick, F_l_pick, m_l_pick, b_l_pick⟩ := T.d_l_pick
  have G_l_pick : FnOk P w K mg base CX0 3 f_l_pick fd_l_pick ps_l_pick (sp_l_pick K) := ok_l_pick F_l_pick T
  refine F.ok (k := 3) sc_l_far (fun vs H Q E h => len_l_far h) (fun cdv A outer s H vs Q E hr h => ?_)
  refine ⟨_, (pss_cons (ps_set (i := 1) sc_l_far.nd rfl (Or.inl rfl) (pe_call G_l_draw (hr.mono (by decide)) (by rfl) m_l_draw F_l_draw.kp b_l_draw .nil pass0 (pa_cons (pv 0) (pa_cons pe_int pa_nil))))
      (pss_cons (ps_set (i := 2) sc_l_far.nd rfl (Or.inl rfl) (pe_lst pa_nil))
      (pss_cons (ps_for PassesOwn.never rfl (pi_range1 (by rfl) T.n_range (pa_cons (pv 1) pa_nil)) (pg_name (i := 3) sc_l_far.nd rfl (Or.inl rfl))
      (pss_cons (ps_set (i := 4) sc_l_far.nd rfl (Or.inl rfl) (pe_call G_l_pick (hr.mono (by decide)) (by rfl) m_l_pick F_l_pick.kp b_l_pick .nil pass0 (pa_cons (pv 0) (pa_cons (pe_lst (pa_cons pe_int (pa_cons pe_int (pa_cons (pe_op op_pow pe_int pe_int) pa_nil)))) pa_nil))))
      (pss_one (ps_expr (pe_bm PySem.F.plainAttrs_list PySem.F.slot_list_append PySem.F.type_list_append mt_append (pv 2) (pa_cons (pe_op op_add pe_int (pe_call G_l_draw (hr.mono (by decide)) (by rfl) m_l_draw F_l_draw.kp b_l_draw .nil pass0 (pa_cons (pv 0) (pa_cons (pv 4) pa_nil)))) pa_nil))))))
      (pss_one (ps_ret (pv 2)))))), ?_⟩
  obtain ⟨h, q, rfl, hh, k⟩ := h
  simp only [tSeq, tAsg, tDrop, tRet, tRetN, tIfS, tNext, tTest, tB, tNot, tAnd, tOr, tChain, tIf, tAndV, tOrV, tNotV, tOp, tUn, tCB, tCons, tNil, tVar, tC, tCall, tCallS, gName, rI, rI0, rU, rEq, rNe, tTup, tLst, gSub, rSetL, rIxL, rIxT, L2.start, List.map_cons, List.map_nil, List.length_cons, List.length_nil, Nat.reduceAdd, Nat.reduceSub, List.replicate_succ, List.replicate_zero, List.getElem?_cons_zero, List.getElem?_cons_succ, List.set_cons_zero, List.set_cons_succ, Option.some.injEq, exists_eq_left', exists_eq_left, exists_and_left, V.int.injEq, V.bl.injEq, V.ref.injEq, V.str.injEq, List.cons.injEq, and_true, true_and, List.nil_append, List.cons_append, List.append_nil, reduceCtorEq, false_and, exists_false, or_false, false_or, and_false, Int.reduceNeg, decide_eq_true_eq, Bool.not_eq_true', decide_eq_false_iff_not, and_assoc, tYes, ↓reduceIte, wipe, Bool.false_eq_true, Bool.true_eq_false, cxOf, false_implies, true_implies, implies_true, forall_const, spDraw]
  refine ⟨q, hh, by decide, by decide, fun d H1 d0 d1 hh1 b1 => ⟨Nat.zero_le _, fun D hD => ?_⟩⟩
  have n1 := hh1.off hD
  have n2 := handOffq hh1 hD
  refine ⟨_, rfl, d, rfl, by omega, by omega, for_range (lo := 0) (n := d.toNat) (fun i z H' => ∃ (ms : List Int) (v u : Option V), z = [some (.ref h), some (.int d), some (.ref D), v, u] ∧ HandAt H' h q ∧ But h H1 H' ∧ H' D = some (.lst (ms.map V.int)) ∧ ms.length = i ∧ ∀ m, m ∈ ms → 1 ≤ m ∧ m ≤ 1000000000)
    ⟨[], none, none, rfl, hh1.same (Same.new hD), But.new hD, upd_same, rfl, fun m hm => absurd hm List.not_mem_nil⟩ ?_ ?_⟩
  · rintro i z H' hi ⟨ms, v, u, rfl, hd, bt, eD, ln, mb⟩
    have e9 : (10 : Int) ^ Int.toNat 9 = 1000000000 := by decide
    simp only [tSeq, tAsg, tDrop, tRet, tRetN, tIfS, tNext, tTest, tB, tNot, tAnd, tOr, tChain, tIf, tAndV, tOrV, tNotV, tOp, tUn, tCB, tCons, tNil, tVar, tC, tCall, tCallS, gName, rI, rI0, rU, rEq, rNe, tTup, tLst, gSub, rSetL, rIxL, rIxT, L2.start, List.map_cons, List.map_nil, List.length_cons, List.length_nil, Nat.reduceAdd, Nat.reduceSub, List.replicate_succ, List.replicate_zero, List.getElem?_cons_zero, List.getElem?_cons_succ, List.set_cons_zero, List.set_cons_succ, Option.some.injEq, exists_eq_left', exists_eq_left, exists_and_left, V.int.injEq, V.bl.injEq, V.ref.injEq, V.str.injEq, List.cons.injEq, and_true, true_and, List.nil_append, List.cons_append, List.append_nil, reduceCtorEq, false_and, exists_false, or_false, false_or, and_false, Int.reduceNeg, decide_eq_true_eq, Bool.not_eq_true', decide_eq_false_iff_not, and_assoc, tYes, ↓reduceIte, wipe, Bool.false_eq_true, Bool.true_eq_false, cxOf, false_implies, true_implies, implies_true, forall_const, spDraw, sp_l_pick, e9]
    refine ⟨⟨by decide, by decide, by decide⟩, (show 3 ≤ sizeLine by decide), fun l hl => ?_⟩
    have sl := Same.new (o := HO.lst [V.int 9, V.int 1000, V.int 1000000000]) hl
    refine ⟨q, hd.same sl, _, upd_same, (show 0 < 3 by decide), (show 3 ≤ 1000 by decide), hd.off hl, fun w H3 hw hd3 b3 => ?_⟩
    have eD3 := b3 _ _ (sl _ _ eD) n1
    have bt3 : But h H1 H3 := (bt.trans (But.of sl)).trans b3
    have hw' : ∃ j : Int, w = .int j ∧ 1 ≤ j ∧ j ≤ 1000000000 := by
      simp only [List.mem_cons, List.not_mem_nil, or_false] at hw
      rcases hw with rfl | rfl | rfl
      all_goals exact ⟨_, rfl, by decide, by decide⟩
    obtain ⟨j, rfl, j0, j1⟩ := hw'
    simp only [tSeq, tAsg, tDrop, tRet, tRetN, tIfS, tNext, tTest, tB, tNot, tAnd, tOr, tChain, tIf, tAndV, tOrV, tNotV, tOp, tUn, tCB, tCons, tNil, tVar, tC, tCall, tCallS, gName, rI, rI0, rU, rEq, rNe, tTup, tLst, gSub, rSetL, rIxL, rIxT, L2.start, List.map_cons, List.map_nil, List.length_cons, List.length_nil, Nat.reduceAdd, Nat.reduceSub, List.replicate_succ, List.replicate_zero, List.getElem?_cons_zero, List.getElem?_cons_succ, List.set_cons_zero, List.set_cons_succ, Option.some.injEq, exists_eq_left', exists_eq_left, exists_and_left, V.int.injEq, V.bl.injEq, V.ref.injEq, V.str.injEq, List.cons.injEq, and_true, true_and, List.nil_append, List.cons_append, List.append_nil, reduceCtorEq, false_and, exists_false, or_false, false_or, and_false, Int.reduceNeg, decide_eq_true_eq, Bool.not_eq_true', decide_eq_false_iff_not, and_assoc, tYes, ↓reduceIte, wipe, Bool.false_eq_true, Bool.true_eq_false, cxOf, false_implies, true_implies, implies_true, forall_const, tBM, rAppend, spDraw]
    refine ⟨.inl ⟨rfl, _, SqL.of eD3⟩, q, hd3, by omega, by omega, fun x H4 x0 x1 hd4 b4 => ⟨_, b4 _ _ eD3 n1, by rw [List.length_map]; exact small1000 (by omega), handPut hd4 n1 n2, butAt (bt3.trans b4) hD, ms ++ [1 + x], ?_, by rw [List.length_append, ln]; rfl, fun m hm => ?_⟩⟩
    · rw [upd_same, List.map_append]
      rfl
    · rcases List.mem_append.mp hm with hm | hm
      · exact mb m hm
      · rw [List.mem_singleton.mp hm]
        exact ⟨by omega, by omega⟩
  · rintro z H' ⟨ms, v, u, rfl, hd, bt, eD, ln, mb⟩
    exact ⟨_, rfl, k H' D ms hd (b1.trans bt) eD n1 (by omega) mb⟩
def sp_l_robbed (_ : PySem.W.Frag) : Sp := fun vs H Q _ => ∃ (h q a : Addr) (ns : List Int), vs = [.ref h, .ref a] ∧ HandAt H h q ∧ H a = some (.lst (ns.map V.int)) ∧ a ≠ h ∧ ns.length ≤ 12 ∧ (∀ m, m ∈ ns → 1 ≤ m ∧ m ≤ 1000000000) ∧ Gives h q 12 H Q
theorem len_l_robbed {vs H Q E} (h : sp_l_robbed K vs H Q E) : vs.length = 2 := by
  obtain ⟨_, _, _, _, rfl, _⟩ := h; rfl
theorem ok_l_robbed {f : Addr} {fd : FuncData} (F : Fun K "_law_robbed" "_law_robbed" s_l_robbed f fd) (T : Txt K mg cBadPool cBadPeople) : FnOk P w K mg base CX0 3 f fd ps_l_robbed (sp_l_robbed K) := by
  obtain ⟨f_l_draw, fd_l_draw, F_l_draw, m_l_draw, b_l_draw⟩ := T.d_l_draw
  have G_l_draw : FnOk P w K mg base CX0 2 f_l_draw fd_l_draw ps_l_draw (sp_l_draw K) := ok_l_draw F_l_draw T
  refine F.ok (k := 2) sc_l_robbed (fun vs H Q E h => len_l_robbed h) (fun cdv A outer s H vs Q E hr h => ?_)
  refine ⟨_, (pss_cons (ps_if (pt_cmpR (op_eqD hr.units) (pv 1) (pe_lst pa_nil) (nomark _)) (pss_one (ps_ret (pv 1))) pss_nil)
      (pss_cons (ps_set (i := 2) sc_l_robbed.nd rfl (Or.inl rfl) (pe_call G_l_draw (hr.mono (by decide)) (by rfl) m_l_draw F_l_draw.kp b_l_draw .nil pass0 (pa_cons (pv 0) (pa_cons (pe_callB call_len_seq (by rfl) T.n_len (by decide +kernel) (pa_cons (pv 1) pa_nil)) pa_nil))))
      (pss_one (ps_ret (pe_op op_cat (pe_slice sl_list (pv 1) po_none (po_some (pv 2))) (pe_slice sl_list (pv 1) (po_some (pe_op op_add (pv 2) pe_int)) po_none)))))), ?_⟩
  obtain ⟨h, q, a, ns, rfl, hh, ha, nh, hn, hb, k⟩ := h
  simp only [tSeq, tAsg, tDrop, tRet, tRetN, tIfS, tNext, tTest, tB, tNot, tAnd, tOr, tChain, tIf, tAndV, tOrV, tNotV, tOp, tUn, tCB, tCons, tNil, tVar, tC, tCall, tCallS, gName, rI, rI0, rU, rEq, rNe, tTup, tLst, gSub, rSetL, rIxL, rIxT, L2.start, List.map_cons, List.map_nil, List.length_cons, List.length_nil, Nat.reduceAdd, Nat.reduceSub, List.replicate_succ, List.replicate_zero, List.getElem?_cons_zero, List.getElem?_cons_succ, List.set_cons_zero, List.set_cons_succ, Option.some.injEq, exists_eq_left', exists_eq_left, exists_and_left, V.int.injEq, V.bl.injEq, V.ref.injEq, V.str.injEq, List.cons.injEq, and_true, true_and, List.nil_append, List.cons_append, List.append_nil, reduceCtorEq, false_and, exists_false, or_false, false_or, and_false, Int.reduceNeg, decide_eq_true_eq, Bool.not_eq_true', decide_eq_false_iff_not, and_assoc, tYes, ↓reduceIte, wipe, Bool.false_eq_true, Bool.true_eq_false, cxOf, false_implies, true_implies, implies_true, forall_const, spDraw]
  refine ⟨Nat.zero_le _, fun p hp => eq_listI (ms := []) (SqL.of ((Same.new hp) _ _ ha)) (SqL.of upd_same) ⟨_, rfl, ?_⟩⟩
  have sp := Same.new (o := HO.lst []) hp
  by_cases e : ns = []
  · rw [decide_eq_true e, if_pos rfl]
    exact k _ a ns (hh.same sp) (But.of sp) (sp _ _ ha) nh hn hb
  · rw [decide_eq_false e, if_neg (fun z => by cases z)]
    have l0 : 0 < ns.length := List.length_pos_iff.mpr e
    refine ⟨_, .inl (SqL.of (sp _ _ ha)), q, hh.same sp, by rw [List.length_map]; omega, by rw [List.length_map]; omega, fun d H1 d0 d1 hh1 b1 => ?_⟩
    have ha1 := b1 _ _ (sp _ _ ha) nh
    obtain ⟨j, rfl⟩ := Int.eq_ofNat_of_zero_le d0
    rw [List.length_map] at d1
    refine ⟨_, rfl, _, rfl, _, rfl, a, _, rfl, SqL.of ha1, fun p1 hp1 => ?_⟩
    have s1 := Same.new (o := HO.lst (cutV (ns.map V.int) none (some (j : Int)))) hp1
    refine ⟨_, rfl, _, rfl, _, _, rfl, rfl, _, rfl, a, _, rfl, SqL.of (s1 _ _ ha1), fun p2 hp2 => ?_⟩
    have s2 := Same.new (o := HO.lst (cutV (ns.map V.int) (some ((j : Int) + 1)) none)) hp2
    refine ⟨p1, p2, _, _, rfl, rfl, s2 _ _ upd_same, upd_same, ?_, fun p3 hp3 => ?_⟩
    · rw [cut_to, cut_from, List.length_map, List.length_map, List.length_take, List.length_drop]
      exact Nat.le_of_lt (Nat.lt_of_le_of_lt (show _ ≤ 100 by omega) (by decide))
    · have s3 := Same.new (o := HO.lst (cutV (ns.map V.int) none (some (j : Int)) ++ cutV (ns.map V.int) (some ((j : Int) + 1)) none)) hp3
      have s13 := s1.trans (s2.trans s3)
      have hh3 := hh1.same s13
      refine k _ p3 (ns.take j ++ ns.drop (j + 1)) hh3 ((((But.of sp).trans b1)).trans (But.of s13)) ?_ ((hh1.same (s1.trans s2)).off hp3) ?_ fun m hm => hb m (mem_cut hm)
      · rw [upd_same, cut_to, cut_from, List.map_append]
      · rw [List.length_append, List.length_take, List.length_drop]
        omega
def sp_l_pool (_ : PySem.W.Frag) : Sp := fun vs H Q _ => ∃ (h q : Addr) (p : Int), vs = [.ref h, .int p, .int 6] ∧ HandAt H h q ∧ 2 ≤ p ∧ p ≤ 5 ∧ Gives h q 12 H Q
theorem len_l_pool {vs H Q E} (h : sp_l_pool K vs H Q E) : vs.length = 3 := by
  obtain ⟨_, _, _, rfl, _⟩ := h; rfl
theorem ok_l_pool {f : Addr} {fd : FuncData} (F : Fun K "_law_pool" "_law_pool" s_l_pool f fd) (T : Txt K mg cBadPool cBadPeople) : FnOk P w K mg base CX0 3 f fd ps_l_pool (sp_l_pool K) := by
  obtain ⟨f_l_draw, fd_l_draw, F_l_draw, m_l_draw, b_l_draw⟩ := T.d_l_draw
  have G_l_draw : FnOk P w K mg base CX0 2 f_l_draw fd_l_draw ps_l_draw (sp_l_draw K) := ok_l_draw F_l_draw T
  obtain ⟨f_l_next, fd_l_next, F_l_next, m_l_next, b_l_next⟩ := T.d_l_next
  have G_l_next : FnOk P w K mg base CX0 1 f_l_next fd_l_next ps_l_next (sp_l_next K) := ok_l_next F_l_next T
  refine F.ok (k := 2) sc_l_pool (fun vs H Q E h => len_l_pool h) (fun cdv A outer s H vs Q E hr h => ?_)
  refine ⟨_, (pss_cons (ps_set (i := 3) sc_l_pool.nd rfl (Or.inl rfl) (pe_call G_l_draw (hr.mono (by decide)) (by rfl) m_l_draw F_l_draw.kp b_l_draw .nil pass0 (pa_cons (pv 0) (pa_cons (pe_op op_add (pv 2) pe_int) pa_nil))))
      (pss_cons (ps_set (i := 4) sc_l_pool.nd rfl (Or.inl rfl) (pe_call G_l_draw (hr.mono (by decide)) (by rfl) m_l_draw F_l_draw.kp b_l_draw .nil pass0 (pa_cons (pv 0) (pa_cons pe_int pa_nil))))
      (pss_cons (ps_set (i := 5) sc_l_pool.nd rfl (Or.inl rfl) (pe_lst pa_nil))
      (pss_cons (ps_for PassesOwn.never rfl (pi_range1 (by rfl) T.n_range (pa_cons (pv 3) pa_nil)) (pg_name (i := 6) sc_l_pool.nd rfl (Or.inl rfl))
      (pss_cons (ps_set (i := 7) sc_l_pool.nd rfl (Or.inl rfl) (pe_call G_l_next (hr.mono (by decide)) (by rfl) m_l_next F_l_next.kp b_l_next .nil pass0 (pa_cons (pe_callB (cr_sumE rfl) (by rfl) T.n_sum (by decide +kernel) (pa_cons (pv 5) pa_nil)) (pa_cons (pv 1) pa_nil))))
      (pss_cons (ps_if (PW.pt (pw_and (pt_cmpR op_ne (pv 4) pe_int (nomark _)) (pw_and1 (pt_cmpR op_gt (pe_call G_l_draw (hr.mono (by decide)) (by rfl) m_l_draw F_l_draw.kp b_l_draw .nil pass0 (pa_cons (pv 0) (pa_cons pe_int pa_nil))) pe_int (nomark _))))) (pss_one (ps_set (i := 7) sc_l_pool.nd rfl (Or.inl rfl) (pe_op op_add pe_int (pe_call G_l_draw (hr.mono (by decide)) (by rfl) m_l_draw F_l_draw.kp b_l_draw .nil pass0 (pa_cons (pv 0) (pa_cons (pv 7) pa_nil)))))) pss_nil)
      (pss_one (ps_expr (pe_bm PySem.F.plainAttrs_list PySem.F.slot_list_insert PySem.F.type_list_insert mt_insert (pv 5) (pa_cons (pe_call G_l_draw (hr.mono (by decide)) (by rfl) m_l_draw F_l_draw.kp b_l_draw .nil pass0 (pa_cons (pv 0) (pa_cons (pe_op op_add (pe_callB call_len_seq (by rfl) T.n_len (by decide +kernel) (pa_cons (pv 5) pa_nil)) pe_int) pa_nil))) (pa_cons (pv 7) pa_nil))))))))
      (pss_cons (ps_if (pt_cmpR (op_neD hr.units) (pv 5) (pe_lst pa_nil) (nomark _)) (pss_cons (ps_set (i := 8) sc_l_pool.nd rfl (Or.inl rfl) (pe_call G_l_draw (hr.mono (by decide)) (by rfl) m_l_draw F_l_draw.kp b_l_draw .nil pass0 (pa_cons (pv 0) (pa_cons (pe_callB call_len_seq (by rfl) T.n_len (by decide +kernel) (pa_cons (pv 5) pa_nil)) pa_nil))))
      (pss_cons (ps_if (pt_cmpR op_eq (pv 4) pe_int (nomark _)) (pss_one (ps_set (i := 5) sc_l_pool.nd rfl (Or.inl rfl) (pe_op op_cat (pe_slice sl_list (pv 5) po_none (po_some (pv 8))) (pe_slice sl_list (pv 5) (po_some (pe_op op_add (pv 8) pe_int)) po_none)))) pss_nil)
      (pss_one (ps_if (pt_cmpR op_ge (pv 4) pe_int (nomark _)) (pss_one (ps_asg (pe_op op_add (pe_op op_add (pe_call G_l_next (hr.mono (by decide)) (by rfl) m_l_next F_l_next.kp b_l_next .nil pass0 (pa_cons (pe_callB (cr_sumE rfl) (by rfl) T.n_sum (by decide +kernel) (pa_cons (pv 5) pa_nil)) (pa_cons (pv 1) pa_nil))) pe_int) (pe_call G_l_draw (hr.mono (by decide)) (by rfl) m_l_draw F_l_draw.kp b_l_draw .nil pass0 (pa_cons (pv 0) (pa_cons pe_int pa_nil)))) (pg_sub (pv 5) (pv 8) set_list))) pss_nil)))) pss_nil)
      (pss_cons (ps_if (pt_cmpR op_eq (pv 4) pe_int (nomark _)) (pss_cons (ps_set (i := 9) sc_l_pool.nd rfl (Or.inr rfl) (pe_op op_add pe_int (pe_call G_l_draw (hr.mono (by decide)) (by rfl) m_l_draw F_l_draw.kp b_l_draw .nil pass0 (pa_cons (pv 0) (pa_cons (pe_op op_pow pe_int pe_int) pa_nil)))))
      (pss_one (ps_setLc (i := 5) (own := [("_law_coin", 7)]) (g := gName 7) (tt := tYes) rfl sc_l_pool.nd rfl rfl (sw_true rfl rfl rfl (by decide +kernel)) (pi_list (pv 5)) (blkOk_by (N := nm_l_pool) (sc := defScope s_l_pool) (by decide +kernel)) (fun _ _ _ _ _ => (pg_name (i := 7) sc_l_pool.nd rfl (Or.inl rfl))) (fun _ _ _ _ _ => pts_nil) (fun _ _ _ _ _ => (pe_op op_mul (pv 7) (pv 9)))))) pss_nil)
      (pss_one (ps_ret (pv 5))))))))), ?_⟩
  obtain ⟨h, q, p, rfl, hh, p0, p5, k⟩ := h
  simp only [tSeq, tAsg, tDrop, tRet, tRetN, tIfS, tNext, tTest, tB, tNot, tAnd, tOr, tChain, tIf, tAndV, tOrV, tNotV, tOp, tUn, tCB, tCons, tNil, tVar, tC, tCall, tCallS, gName, rI, rI0, rU, rEq, rNe, tTup, tLst, gSub, rSetL, rIxL, rIxT, L2.start, List.map_cons, List.map_nil, List.length_cons, List.length_nil, Nat.reduceAdd, Nat.reduceSub, List.replicate_succ, List.replicate_zero, List.getElem?_cons_zero, List.getElem?_cons_succ, List.set_cons_zero, List.set_cons_succ, Option.some.injEq, exists_eq_left', exists_eq_left, exists_and_left, V.int.injEq, V.bl.injEq, V.ref.injEq, V.str.injEq, List.cons.injEq, and_true, true_and, List.nil_append, List.cons_append, List.append_nil, reduceCtorEq, false_and, exists_false, or_false, false_or, and_false, Int.reduceNeg, decide_eq_true_eq, Bool.not_eq_true', decide_eq_false_iff_not, and_assoc, tYes, ↓reduceIte, wipe, Bool.false_eq_true, Bool.true_eq_false, cxOf, false_implies, true_implies, implies_true, forall_const, spDraw]
  refine ⟨q, hh, by decide, by decide, fun d H1 d0 d1 hh1 b1 => ⟨q, hh1, by decide, by decide, fun t H2 t0 t1 hh2 b2 => ?_⟩⟩
  refine ⟨Nat.zero_le _, fun D hD => ?_⟩
  have n1 := hh2.off hD
  have n2 := handOffq hh2 hD
  refine ⟨_, rfl, d, rfl, by omega, by omega, for_range (lo := 0) (n := d.toNat) (fun i z H' => ∃ (ms : List Int) (v6 v7 v8 v9 : Option V), z = [some (.ref h), some (.int p), some (.int 6), some (.int d), some (.int t), some (.ref D), v6, v7, v8, v9] ∧ HandAt H' h q ∧ But h H2 H' ∧ H' D = some (.lst (ms.map V.int)) ∧ ms.length = i ∧ ms.sum ≤ 2 ^ i - 1 ∧ ∀ m, m ∈ ms → 1 ≤ m ∧ m ≤ 64)
    ⟨[], none, none, none, none, rfl, hh2.same (Same.new hD), But.new hD, upd_same, rfl, by decide, fun m hm => absurd hm List.not_mem_nil⟩ ?_ ?_⟩
  · rintro i z H' hi ⟨ms, v6, v7, v8, v9, rfl, hd, bt, eD, ln, sm, mb⟩
    have s0 : 0 ≤ ms.sum := by
      have f := (filter_sum (r := -1) (l := ms) fun x hx => by have := (mb x hx).1; omega)
      omega
    have i2 : (2 : Int) ^ i ≤ 2 ^ 5 := pow2_le (by omega)
    have i3 : (2 : Int) ^ 5 = 32 := by decide
    have c1 := room_pos p0 s0
    have c2 : room p ms.sum ≤ ms.sum + 1 := by
      have := Int.ediv_le_self (p - 1) s0
      unfold room
      omega
    have e2 : (2 : Int) ^ (i + 1) = 2 * 2 ^ i := by rw [Int.pow_succ, Int.mul_comm]
    simp only [tSeq, tAsg, tDrop, tRet, tRetN, tIfS, tNext, tTest, tB, tNot, tAnd, tOr, tChain, tIf, tAndV, tOrV, tNotV, tOp, tUn, tCB, tCons, tNil, tVar, tC, tCall, tCallS, gName, rI, rI0, rU, rEq, rNe, tTup, tLst, gSub, rSetL, rIxL, rIxT, L2.start, List.map_cons, List.map_nil, List.length_cons, List.length_nil, Nat.reduceAdd, Nat.reduceSub, List.replicate_succ, List.replicate_zero, List.getElem?_cons_zero, List.getElem?_cons_succ, List.set_cons_zero, List.set_cons_succ, Option.some.injEq, exists_eq_left', exists_eq_left, exists_and_left, V.int.injEq, V.bl.injEq, V.ref.injEq, V.str.injEq, List.cons.injEq, and_true, true_and, List.nil_append, List.cons_append, List.append_nil, reduceCtorEq, false_and, exists_false, or_false, false_or, and_false, Int.reduceNeg, decide_eq_true_eq, Bool.not_eq_true', decide_eq_false_iff_not, and_assoc, tYes, ↓reduceIte, wipe, Bool.false_eq_true, Bool.true_eq_false, cxOf, false_implies, true_implies, implies_true, forall_const, rSumE, sp_l_next]
    refine ⟨ms, .inl (SqL.of eD), p0, p5, rfl, ?_⟩
    generalize room p ms.sum = c at c1 c2 ⊢
    simp only [tSeq, tAsg, tDrop, tRet, tRetN, tIfS, tNext, tTest, tB, tNot, tAnd, tOr, tChain, tIf, tAndV, tOrV, tNotV, tOp, tUn, tCB, tCons, tNil, tVar, tC, tCall, tCallS, gName, rI, rI0, rU, rEq, rNe, tTup, tLst, gSub, rSetL, rIxL, rIxT, L2.start, List.map_cons, List.map_nil, List.length_cons, List.length_nil, Nat.reduceAdd, Nat.reduceSub, List.replicate_succ, List.replicate_zero, List.getElem?_cons_zero, List.getElem?_cons_succ, List.set_cons_zero, List.set_cons_succ, Option.some.injEq, exists_eq_left', exists_eq_left, exists_and_left, V.int.injEq, V.bl.injEq, V.ref.injEq, V.str.injEq, List.cons.injEq, and_true, true_and, List.nil_append, List.cons_append, List.append_nil, reduceCtorEq, false_and, exists_false, or_false, false_or, and_false, Int.reduceNeg, decide_eq_true_eq, Bool.not_eq_true', decide_eq_false_iff_not, and_assoc, tYes, ↓reduceIte, wipe, Bool.false_eq_true, Bool.true_eq_false, cxOf, false_implies, true_implies, implies_true, forall_const, tBM, spDraw]
    have e63 : (2 : Int) ^ 63 = 9223372036854775808 := by decide
    have ins : ∀ (Hx : Hp) (g : Int), 1 ≤ g → g ≤ ms.sum + 1 → HandAt Hx h q → But h H2 Hx → Hx D = some (.lst (ms.map V.int)) →
        tyV K "list" (V.ref D) Hx ∧ ∃ x, (SqL K Hx D x ∨ SqT K Hx D x) ∧ ∃ x_1, HandAt Hx h x_1 ∧ 0 < (x.length : Int) + 1 ∧ (x.length : Int) + 1 < 9223372036854775808 ∧ ∀ (e : Int) (Hy : Hp), 0 ≤ e → e < (x.length : Int) + 1 → HandAt Hy h x_1 → But h Hx Hy →
          ∃ x, Hy D = some (.lst x) ∧ x.length < sizeLine ∧ 0 ≤ e ∧ e < 2 ^ 63 ∧ HandAt (upd Hy D (.lst (x.take e.toNat ++ [V.int g] ++ x.drop e.toNat))) h q ∧ But h H2 (upd Hy D (.lst (x.take e.toNat ++ [V.int g] ++ x.drop e.toNat))) ∧
            ∃ x_2 : List Int, upd Hy D (.lst (x.take e.toNat ++ [V.int g] ++ x.drop e.toNat)) D = some (.lst (x_2.map V.int)) ∧ x_2.length = i + 1 ∧ x_2.sum ≤ 2 ^ (i + 1) - 1 ∧ ∀ m : Int, m ∈ x_2 → 1 ≤ m ∧ m ≤ 64 := by
      intro Hx g g1 g2 hx bx ex
      refine ⟨.inl ⟨rfl, _, SqL.of ex⟩, _, .inl (SqL.of ex), q, hx, by omega, by rw [List.length_map]; omega, fun e Hy e0 e1 hy by' => ?_⟩
      rw [List.length_map] at e1
      refine ⟨_, by' _ _ ex n1, by rw [List.length_map]; exact small1000 (by omega), e0, by omega, handPut hy n1 n2, butAt (bx.trans by') hD, ms.take e.toNat ++ [g] ++ ms.drop e.toNat, ?_, ?_, ?_, fun m hm => ?_⟩
      · rw [upd_same, List.map_append, List.map_append, List.map_take, List.map_drop]
        rfl
      · rw [List.length_append, List.length_append, List.length_take, List.length_drop]
        show _ + 1 + _ = _
        omega
      · have es : (ms.take e.toNat).sum + (ms.drop e.toNat).sum = ms.sum := by rw [← List.sum_append, List.take_append_drop]
        rw [List.sum_append, List.sum_append, e2]
        simp
        omega
      · rcases List.mem_append.mp hm with hm | hm
        · rcases List.mem_append.mp hm with hm | hm
          · exact mb m (List.mem_of_mem_take hm)
          · rw [List.mem_singleton.mp hm]
            exact ⟨by omega, by omega⟩
        · exact mb m (List.mem_of_mem_drop hm)
    split
    · refine ⟨q, hd, by decide, by decide, fun y H3 y0 y1 hd3 b3 => ?_⟩
      have eD3 := b3 _ _ eD n1
      split
      · exact ⟨q, hd3, by omega, by omega, fun g H4 g0 g1 hd4 b4 => ins H4 (1 + g) (by omega) (by omega) hd4 ((bt.trans b3).trans b4) (b4 _ _ eD3 n1)⟩
      · exact ins H3 c (by omega) (by omega) hd3 (bt.trans b3) eD3
    · exact ins H' c (by omega) (by omega) hd bt eD
  · rintro z H' ⟨ms, v6, v7, v8, v9, rfl, hd, bt, eD, ln, sm, mb⟩
    have e5 : (10 : Int) ^ Int.toNat 5 = 100000 := by decide
    simp only [tSeq, tAsg, tDrop, tRet, tRetN, tIfS, tNext, tTest, tB, tNot, tAnd, tOr, tChain, tIf, tAndV, tOrV, tNotV, tOp, tUn, tCB, tCons, tNil, tVar, tC, tCall, tCallS, gName, rI, rI0, rU, rEq, rNe, tTup, tLst, gSub, rSetL, rIxL, rIxT, L2.start, List.map_cons, List.map_nil, List.length_cons, List.length_nil, Nat.reduceAdd, Nat.reduceSub, List.replicate_succ, List.replicate_zero, List.getElem?_cons_zero, List.getElem?_cons_succ, List.set_cons_zero, List.set_cons_succ, Option.some.injEq, exists_eq_left', exists_eq_left, exists_and_left, V.int.injEq, V.bl.injEq, V.ref.injEq, V.str.injEq, List.cons.injEq, and_true, true_and, List.nil_append, List.cons_append, List.append_nil, reduceCtorEq, false_and, exists_false, or_false, false_or, and_false, Int.reduceNeg, decide_eq_true_eq, Bool.not_eq_true', decide_eq_false_iff_not, and_assoc, tYes, ↓reduceIte, wipe, Bool.false_eq_true, Bool.true_eq_false, cxOf, false_implies, true_implies, implies_true, forall_const, spDraw, e5]
    refine ⟨Nat.zero_le _, fun e he => ne_listI (ms := []) (SqL.of ((Same.new he) _ _ eD)) (SqL.of upd_same) ⟨_, rfl, ?_⟩⟩
    have se := Same.new (o := HO.lst []) he
    have eD1 := se _ _ eD
    have hd1 := hd.same se
    have bt1 : But h H2 _ := bt.trans (But.of se)
    generalize upd H' e (HO.lst []) = H3 at eD1 hd1 bt1 ⊢
    clear se he hd bt eD H'
    have b0 : But h H H3 := (b1.trans b2).trans bt1
    have fD : H D = none := by
      cases z : H D with
      | none => rfl
      | some o =>
        have y := (b1.trans b2) _ _ z n1
        rw [hD] at y
        cases y
    have tms : ∀ (B : Addr) (Hx : Hp) (ls : List Int) (u7 u8 : Option V) (e : Int), Hx B = some (.lst (ls.map V.int)) → HandAt Hx h q → But h H Hx → ls.length ≤ 12 → (∀ m, m ∈ ls → 1 ≤ m ∧ m ≤ 9000) → 0 ≤ e → e < 100000 →
        tLc (iList K (tVar 5)) (gName 7) tYes (tOp (rI CMul fun i j => V.int (i * j)) (tVar 7) (tVar 9)) [7] [some (.ref h), some (.int p), some (.int 6), some (.int d), some (.int t), some (.ref B), v6, u7, u8, some (.int (1 + e))] Hx fun x H1 => Q x H1 := by
      intro B Hx ls u7 u8 e eB hx bx ll lb e0 e1
      refine ⟨_, rfl, B, rfl, ⟨_, SqL.of eB⟩, fun D2 hD2 => lc_list (K := K) (a := B) (xs := ls.map V.int) (fun i h' => ∃ ks : List Int, Same Hx h' ∧ h' D2 = some (.lst (ks.map V.int)) ∧ ks.length = i ∧ ∀ m, m ∈ ks → 1 ≤ m ∧ m ≤ 1000000000)
        ⟨[], Same.new hD2, upd_same, rfl, fun m hm => absurd hm List.not_mem_nil⟩ (fun i h' _ ⟨_, s, _⟩ => SqL.of (s _ _ eB)) ?_ ?_⟩
      · rintro i y h' hi ⟨ks, s, eK, kl, kb⟩
        obtain ⟨g, hg, rfl⟩ := nat_map hi
        have gb := lb g (List.mem_of_getElem? hg)
        have il := (List.getElem?_eq_some_iff.mp hg).1
        have m1 : g * (1 + e) ≤ 9000 * 100000 := Int.mul_le_mul gb.2 (by omega) (by omega) (by decide)
        have m0 : 0 < g * (1 + e) := Int.mul_pos (by omega) (by omega)
        simp only [tSeq, tAsg, tDrop, tRet, tRetN, tIfS, tNext, tTest, tB, tNot, tAnd, tOr, tChain, tIf, tAndV, tOrV, tNotV, tOp, tUn, tCB, tCons, tNil, tVar, tC, tCall, tCallS, gName, rI, rI0, rU, rEq, rNe, tTup, tLst, gSub, rSetL, rIxL, rIxT, L2.start, List.map_cons, List.map_nil, List.length_cons, List.length_nil, Nat.reduceAdd, Nat.reduceSub, List.replicate_succ, List.replicate_zero, List.getElem?_cons_zero, List.getElem?_cons_succ, List.set_cons_zero, List.set_cons_succ, Option.some.injEq, exists_eq_left', exists_eq_left, exists_and_left, V.int.injEq, V.bl.injEq, V.ref.injEq, V.str.injEq, List.cons.injEq, and_true, true_and, List.nil_append, List.cons_append, List.append_nil, reduceCtorEq, false_and, exists_false, or_false, false_or, and_false, Int.reduceNeg, decide_eq_true_eq, Bool.not_eq_true', decide_eq_false_iff_not, and_assoc, tYes, ↓reduceIte, wipe, Bool.false_eq_true, Bool.true_eq_false, cxOf, false_implies, true_implies, implies_true, forall_const]
        refine ⟨cml (by omega) (by omega), _, eK, by rw [List.length_map]; exact small1000 (by omega), fun b o z => ?_, ks ++ [g * (1 + e)], ?_, by rw [List.length_append, kl]; rfl, fun m hm => ?_⟩
        · rw [upd_ne (ne_of_none z hD2)]
          exact s b o z
        · rw [upd_same, List.map_append]
          rfl
        · rcases List.mem_append.mp hm with hm | hm
          · exact kb m hm
          · rw [List.mem_singleton.mp hm]
            exact ⟨by omega, by omega⟩
      · rintro h' ⟨ks, s, eK, kl, kb⟩
        exact k h' D2 ks (hx.same s) (bx.trans (But.of s)) eK (hx.off hD2) (by rw [List.length_map] at kl; omega) kb
    have tail : ∀ (B : Addr) (Hx : Hp) (ls : List Int) (u7 u8 : Option V), Hx B = some (.lst (ls.map V.int)) → B ≠ h → HandAt Hx h q → But h H Hx → ls.length ≤ 12 → (∀ m, m ∈ ls → 1 ≤ m ∧ m ≤ 9000) →
        if t = 5 then CPow 10 5 ∧ ∃ x, HandAt Hx h x ∧ (0 : Int) < 100000 ∧ (100000 : Int) < 9223372036854775808 ∧ ∀ (e : Int) (H' : Hp), 0 ≤ e → e < 100000 → HandAt H' h x → But h Hx H' →
          tLc (iList K (tVar 5)) (gName 7) tYes (tOp (rI CMul fun i j => V.int (i * j)) (tVar 7) (tVar 9)) [7] [some (.ref h), some (.int p), some (.int 6), some (.int d), some (.int t), some (.ref B), v6, u7, u8, some (.int (1 + e))] H' fun x H1 => Q x H1
        else Q (.ref B) Hx := by
      intro B Hx ls u7 u8 eB nB hx bx ll lb
      split
      · exact ⟨⟨by decide, by decide, by decide⟩, q, hx, by decide, by decide, fun e H' e0 e1 hx' bx' => tms B H' ls u7 u8 e (bx' _ _ eB nB) hx' (bx.trans bx') ll lb e0 e1⟩
      · exact k Hx B ls hx bx eB nB ll fun m hm => ⟨(lb m hm).1, by have := (lb m hm).2; omega⟩
    have mb' : ∀ m, m ∈ ms → 1 ≤ m ∧ m ≤ 9000 := fun m hm => ⟨(mb m hm).1, by have := (mb m hm).2; omega⟩
    have ml : ms.length ≤ 12 := by omega
    by_cases em : ms = []
    · rw [decide_eq_true em, if_neg (fun z => by cases z)]
      exact ⟨rfl, tail D H3 ms v7 v8 eD1 n1 hd1 b0 ml mb'⟩
    · have l0 : 0 < ms.length := List.length_pos_iff.mpr em
      rw [decide_eq_false em]
      refine ⟨_, .inl (SqL.of eD1), q, hd1, by rw [List.length_map]; omega, by rw [List.length_map]; omega, fun x H4 x0 x1 hd4 b4 => ⟨rfl, ?_⟩⟩
      obtain ⟨j, rfl⟩ := Int.eq_ofNat_of_zero_le x0
      rw [List.length_map] at x1
      have eD4 := b4 _ _ eD1 n1
      have b04 := b0.trans b4
      by_cases t3 : t = 3
      · rw [if_pos t3]
        refine ⟨_, rfl, _, rfl, _, rfl, D, _, rfl, SqL.of eD4, fun p1 hp1 => ?_⟩
        have s1 := Same.new (o := HO.lst (cutV (ms.map V.int) none (some (j : Int)))) hp1
        refine ⟨_, rfl, _, rfl, _, _, rfl, rfl, _, rfl, D, _, rfl, SqL.of (s1 _ _ eD4), fun p2 hp2 => ?_⟩
        have s2 := Same.new (o := HO.lst (cutV (ms.map V.int) (some ((j : Int) + 1)) none)) hp2
        refine ⟨p1, p2, _, _, rfl, rfl, s2 _ _ upd_same, upd_same, ?_, fun p3 hp3 => ?_⟩
        · rw [cut_to, cut_from, List.length_map, List.length_map, List.length_take, List.length_drop]
          exact Nat.le_of_lt (Nat.lt_of_le_of_lt (show _ ≤ 100 by omega) (by decide))
        · have s3 := Same.new (o := HO.lst (cutV (ms.map V.int) none (some (j : Int)) ++ cutV (ms.map V.int) (some ((j : Int) + 1)) none)) hp3
          have s13 := s1.trans (s2.trans s3)
          show ite (4 ≤ t) _ _
          rw [if_neg (show ¬ 4 ≤ t by omega)]
          refine ⟨rfl, tail p3 _ (ms.take j ++ ms.drop (j + 1)) _ _ ?_ ((hd4.same (s1.trans s2)).off hp3) (hd4.same s13) (b04.trans (But.of s13)) ?_ fun m hm => mb' m (mem_cut hm)⟩
          · rw [upd_same, cut_to, cut_from, List.map_append]
          · rw [List.length_append, List.length_take, List.length_drop]
            omega
      · rw [if_neg t3]
        have pw : (2 : Int) ^ d.toNat ≤ 2 ^ 6 := pow2_le (by omega)
        have p6 : (2 : Int) ^ 6 = 64 := by decide
        have s0 : 0 ≤ ms.sum := by
          have f := (filter_sum (r := -1) (l := ms) fun x hx => by have := (mb x hx).1; omega)
          omega
        have c1 := room_pos p0 s0
        have c2 : room p ms.sum ≤ ms.sum + 1 := by
          have := Int.ediv_le_self (p - 1) s0
          unfold room
          omega
        split
        · refine ⟨D, ms, rfl, .inl (SqL.of eD4), _, p, rfl, p0, p5, _, rfl, q, hd4, by decide, by decide, fun y H5 y0 y1 hd5 b5 => ⟨_, b5 _ _ eD4 n1, j, ?_, rfl, tail D _ (ms.set j (room p ms.sum + 1 + y)) _ _ ?_ n1 (handPut hd5 n1 n2) ?_ ?_ fun m hm => ?_⟩⟩
          · unfold ixN
            rw [if_pos (by omega), if_pos (by rw [List.length_map]; omega)]
            simp
          · rw [upd_same, List.map_set]
          · exact butAt (b04.trans b5) fD
          · rw [List.length_set]
            exact ml
          · rcases List.mem_or_eq_of_mem_set hm with hm | rfl
            · exact mb' m hm
            · exact ⟨by omega, by omega⟩
        · exact ⟨rfl, tail D H4 ms _ _ eD4 n1 hd4 b04 ml mb'⟩
end
end My
set_option Elab.async false
set_option linter.all false
set_option maxRecDepth 100000
set_option maxHeartbeats 4000000
namespace My
open PySem PySem.Spec PyProof.Rows L2 Gen
section
variable {P : Program} {w : World} {K : PySem.W.Frag} {mg : Str → Option Value} {base : Heap} { cBadPool cBadPeople : Addr}
def rListOf (K : PySem.W.Frag) : List V → Hp → VK → Prop := fun xs H Q => ∃ (p : Addr) (ys : List V), xs = [V.ref p] ∧ (SqL K H p ys ∨ SqT K H p ys) ∧ ∀ l, H l = none → Q (.ref l) (upd H l (.lst ys))
theorem call_list_ofK {X : Cx} {K : PySem.W.Frag} (hK : X.K = K) : CallR X (.type "list") (rListOf K) := hK ▸ call_list_of
/-- a pool as it is, with people as they are -/
def PoolOk (H : Hp) (x : V) (a : Addr) (ns : List Int) : Prop := x = .ref a ∧ Row H a (ns.map V.int) ∧ ns.length ≤ 12 ∧ ∀ n, n ∈ ns → 1 ≤ n ∧ n ≤ 1000000000
/-- the first thing that is no coin -/
def BadAt (H : Hp) (x : V) (a : Addr) (xs : List V) (i : Nat) (y : V) : Prop := x = .ref a ∧ Row H a xs ∧ xs.length ≤ 12 ∧ (∀ j z, j < i → xs[j]? = some z → whole z 1 1000000000 = true) ∧ xs[i]? = some y ∧ whole y 1 1000000000 = false
theorem lk_place {x y : V} : List.lookup ("place" : Str) [(("what" : Str), x), (("place" : Str), y)] = some y := by
  have e : (("place" : Str) == ("what" : Str)) = false := by decide
  simp [List.lookup, e]
theorem lk_what {x y : V} : List.lookup ("what" : Str) [(("what" : Str), x), (("place" : Str), y)] = some x := by simp [List.lookup]
theorem bad_few {H : Hp} {x : V} {a : Addr} {xs : List V} {i : Nat} {y : V} (b : BadAt H x a xs i y) : FewRow H x := ⟨a, xs, b.1, b.2.1, b.2.2.1⟩
theorem ok_few {H : Hp} {x : V} {a : Addr} {ns : List Int} (b : PoolOk H x a ns) : FewRow H x := ⟨a, _, b.1, b.2.1, by rw [List.length_map]; exact b.2.2.1⟩
theorem bad_ok {H : Hp} {x : V} {a b : Addr} {xs : List V} {i : Nat} {y : V} {ns : List Int} (h : BadAt H x a xs i y) (o : PoolOk H x b ns) : False := by
  obtain ⟨rfl, r, _, _, e, wy⟩ := h
  obtain ⟨e1, r2, _, nb⟩ := o
  cases e1
  rw [Row.one r r2] at e
  obtain ⟨c, hc, rfl⟩ := nat_map e
  have cb := nb c (List.mem_of_getElem? hc)
  rw [whole_int cb.1 cb.2] at wy
  cases wy
theorem bad_one {H : Hp} {x : V} {a b : Addr} {xs zs : List V} {i j : Nat} {y z : V} (h : BadAt H x a xs i y) (o : BadAt H x b zs j z) : i = j := by
  obtain ⟨rfl, r, _, f1, e, wy⟩ := h
  obtain ⟨e1, r2, _, f2, e2, wz⟩ := o
  cases e1
  rw [Row.one r r2] at e f1
  rcases Nat.lt_trichotomy i j with g | g | g
  · rw [f2 i y g e] at wy
    cases wy
  · exact g
  · rw [f1 j z g e2] at wz
    cases wz
def sp_l_told (_ : PySem.W.Frag) : Sp := fun vs H Q _ => ∃ x y : V, vs = [x, y] ∧ Arg H x ∧ Plain H y ∧
  ((¬ FewRow H x ∧ ∀ H' p, Same H H' → H p = none → H' p = some (.tup [.str "pool", .int 0, .str "many"]) → Q (.ref p) H') ∨
    (∃ a xs i z, BadAt H x a xs i z ∧ ∀ H' p, Same H H' → H p = none → H' p = some (.tup [.str "pool", .int (i : Nat), .str "coin"]) → Q (.ref p) H') ∨
    (∃ a ns, PoolOk H x a ns ∧ whole y 2 5 = false ∧ ∀ H' p, Same H H' → H p = none → H' p = some (.tup [.str "people", .int 0]) → Q (.ref p) H'))
theorem len_l_told {vs H Q E} (h : sp_l_told K vs H Q E) : vs.length = 2 := by
  obtain ⟨_, _, rfl, _⟩ := h; rfl
theorem ok_l_told {f : Addr} {fd : FuncData} (F : Fun K "_law_told" "_law_told" s_l_told f fd) (T : Txt K mg cBadPool cBadPeople) : FnOk P w K mg base CX0 5 f fd ps_l_told (sp_l_told K) := by
  obtain ⟨f_mending_coins, fd_mending_coins, F_mending_coins, m_mending_coins, b_mending_coins⟩ := T.d_mending_coins
  have G_mending_coins : FnOk P w K mg base (L2.CX P w) 4 f_mending_coins fd_mending_coins ps_mending_coins (sp_mending_coins K cBadPool cBadPeople) := ok_mending_coins F_mending_coins T
  refine F.ok (k := 4) sc_l_told (fun vs H Q E h => len_l_told h) (fun cdv A outer s H vs Q E hr h => ?_)
  refine ⟨_, (pss_one (ps_try_mix rfl rfl takes0 (fun W pn xe tk _ => (pss_one (ps_ret (by exact (pe_callS G_mending_coins (hr.mono (by decide)) (by rfl) m_mending_coins F_mending_coins.kp b_mending_coins (fun σ => passAt tk σ) (pa_cons (pv 0) (pa_cons (pv 1) pa_nil))))))) (HdsX.asn (i := 2) ⟨rfl, by decide, Or.inl T.y_BadPool.gC⟩ sc_l_told.nd rfl rfl (fun a oe cls d pn hz hf => (pss_one (ps_ret (pe_tup (pa_cons pe_str (pa_cons (pe_xf T.x_BadPool T.f_BadPool_place hz hf (pv 2)) (pa_cons (pe_xf T.x_BadPool T.f_BadPool_what hz hf (pv 2)) pa_nil))))))) (HdsX.one ⟨rfl, by decide, Or.inl T.y_BadPeople.gC⟩ (fun a oe cls d pn hz hf => (pss_one (ps_ret (pe_tup (pa_cons pe_str (pa_cons pe_int pa_nil)))))) HdsX.nil)))), ?_⟩
  obtain ⟨x, y, rfl, hx, hy, k⟩ := h
  simp only [tSeq, tAsg, tDrop, tRet, tRetN, tIfS, tNext, tTest, tB, tNot, tAnd, tOr, tChain, tIf, tAndV, tOrV, tNotV, tOp, tUn, tCB, tCons, tNil, tVar, tC, tCall, tCallS, gName, rI, rI0, rU, rEq, rNe, tTup, tLst, gSub, rSetL, rIxL, rIxT, L2.start, List.map_cons, List.map_nil, List.length_cons, List.length_nil, Nat.reduceAdd, Nat.reduceSub, List.replicate_succ, List.replicate_zero, List.getElem?_cons_zero, List.getElem?_cons_succ, List.set_cons_zero, List.set_cons_succ, Option.some.injEq, exists_eq_left', exists_eq_left, exists_and_left, V.int.injEq, V.bl.injEq, V.ref.injEq, V.str.injEq, List.cons.injEq, and_true, true_and, List.nil_append, List.cons_append, List.append_nil, reduceCtorEq, false_and, exists_false, or_false, false_or, and_false, Int.reduceNeg, decide_eq_true_eq, Bool.not_eq_true', decide_eq_false_iff_not, and_assoc, tYes, ↓reduceIte, wipe, Bool.false_eq_true, Bool.true_eq_false, cxOf, false_implies, true_implies, implies_true, forall_const, sp_mending_coins, WE, wMix, suiteOf, Ends.off, tXf, T.m_BadPool_BadPool, T.m_BadPeople_BadPool, T.m_BadPeople_BadPeople]
  have tl : ∀ (u : Str) (i : Int), (∀ H' p, Same H H' → H p = none → H' p = some (.tup [.str "pool", .int i, .str u]) → Q (.ref p) H') → ∀ (H' : Hp) (d : Addr), Same H H' → H' d = none → ∀ a, upd H' d (bad2 i u) a = none →
      ∃ x, upd H' d (bad2 i u) d = some (HO.xd x) ∧ ∃ x_1, List.lookup ("place" : Str) x = some x_1 ∧ ∃ x, upd H' d (bad2 i u) d = some (HO.xd x) ∧ ∃ x_2, List.lookup ("what" : Str) x = some x_2 ∧ 3 ≤ sizeLine ∧
        ∀ p, upd H' d (bad2 i u) p = none → Q (.ref p) (upd (upd H' d (bad2 i u)) p (.tup [.str "pool", x_1, x_2])) :=
    fun u i k H' d s hd a ha => ⟨_, upd_same, _, lk_place, _, upd_same, _, lk_what, by decide, fun p hp => k _ p (s.trans ((Same.new hd).trans (Same.new hp))) (Same.free (s.trans (Same.new hd)) hp) upd_same⟩
  refine ⟨hx, hy, ?_⟩
  rcases k with ⟨n, k⟩ | ⟨a, xs, i, z, b, k⟩ | ⟨a, ns, o, wy, k⟩
  · exact ⟨fun _ => tl _ _ k, fun a xs i z e1 e2 e3 e4 e5 e6 => absurd (bad_few ⟨e1, e2, e3, e4, e5, e6⟩) n, fun a ns e1 e2 e3 e4 => absurd (ok_few ⟨e1, e2, e3, e4⟩) n, fun a ns p e1 _ e2 e3 e4 => absurd (ok_few ⟨e1, e2, e3, e4⟩) n⟩
  · refine ⟨fun n => absurd (bad_few b) n, fun a xs j z e1 e2 e3 e4 e5 e6 => ?_, fun a ns e1 e2 e3 e4 => (bad_ok b ⟨e1, e2, e3, e4⟩).elim, fun a ns p e1 _ e2 e3 e4 => (bad_ok b ⟨e1, e2, e3, e4⟩).elim⟩
    obtain rfl := bad_one b ⟨e1, e2, e3, e4, e5, e6⟩
    exact tl _ _ k
  · refine ⟨fun n => absurd (ok_few o) n, fun a xs j z e1 e2 e3 e4 e5 e6 => (bad_ok ⟨e1, e2, e3, e4, e5, e6⟩ o).elim, fun _ _ _ _ _ _ _ H' s a ha => ⟨by decide, fun p hp => k _ p (s.trans (Same.new hp)) (Same.free s hp) upd_same⟩, fun a ns p _ e1 _ _ _ p0 p5 => ?_⟩
    rw [e1, whole_int p0 p5] at wy
    cases wy
theorem int_inj : ∀ {ns ms : List Int}, ns.map V.int = ms.map V.int → ns = ms
  | [], [], _ => rfl
  | [], _ :: _, h => by cases h
  | _ :: _, [], h => by cases h
  | n :: ns, m :: ms, h => by
    rw [List.map_cons, List.map_cons] at h
    injection h with h1 h2
    injection h1 with h3
    rw [h3, int_inj h2]
theorem row_arg {H : Hp} {a : Addr} {ns : List Int} (hr : Row H a (ns.map V.int)) : Arg H (.ref a) := by
  refine ⟨?_, fun b xs e r y hy => ?_⟩
  · rcases hr with h | h
    · exact .inl ⟨_, h⟩
    · exact .inr (.inl ⟨_, h⟩)
  · cases e
    rw [← Row.one hr r] at hy
    obtain ⟨n, _, rfl⟩ := List.mem_map.mp hy
    exact True.intro
theorem mend_call {H : Hp} {a : Addr} {ns : List Int} {p : Int} {cB cP : Addr} {Q : VK} {E : XK} (hr : Row H a (ns.map V.int)) (hl : ns.length ≤ 12) (nb : ∀ n, n ∈ ns → 1 ≤ n ∧ n ≤ 1000000000) (p0 : 2 ≤ p) (p5 : p ≤ 5)
    (k : ∀ (H' : Hp) (b : Addr) (ms : List Int), Same H H' → H' b = some (.tup ((mL p ms).map V.int)) → ms.Perm ns → ms.Pairwise (· ≤ ·) → Q (.ref b) H') : sp_mending_coins K cB cP [.ref a, .int p] H Q E :=
  ⟨.ref a, .int p, rfl, row_arg hr, True.intro, fun n => absurd (ok_few ⟨rfl, hr, hl, nb⟩) n, fun b xs i z e1 e2 e3 e4 e5 e6 => (bad_ok ⟨e1, e2, e3, e4, e5, e6⟩ ⟨rfl, hr, hl, nb⟩).elim,
    fun _ _ _ _ _ _ wy => absurd ((whole_int p0 p5).symm.trans wy) (by decide), fun b ms p' e1 e2 r2 _ _ _ _ => by
      cases e1
      cases e2
      rw [← int_inj (Row.one hr r2)]
      exact k⟩
noncomputable def srvB (p : Int) (ms : List Int) : Bool := @decide (Srv p 0 ms) (Classical.propDecidable _)
theorem srvB_true {p : Int} {ms : List Int} (h : Srv p 0 ms) : srvB p ms = true := @decide_eq_true _ (Classical.propDecidable _) h
theorem srvB_false {p : Int} {ms : List Int} (h : ¬ Srv p 0 ms) : srvB p ms = false := @decide_eq_false _ (Classical.propDecidable _) h
theorem serves_call {H : Hp} {a : Addr} {ns : List Int} {p : Int} {Q : VK} {E : XK} (hr : Row H a (ns.map V.int)) (p0 : 2 ≤ p) (p5 : p ≤ 5)
    (k : ∀ (ms : List Int) (H' : Hp), Same H H' → ms.Perm ns → ms.Pairwise (· ≤ ·) → Q (.bl (srvB p ms)) H') : sp_l_serves K [.ref a, .int p] H Q E :=
  ⟨a, ns, p, rfl, hr, p0, p5, fun ms H' s h1 h2 => ⟨fun v => by have z := k ms H' s h1 h2; rwa [srvB_true v] at z, fun v => by have z := k ms H' s h1 h2; rwa [srvB_false v] at z⟩⟩
theorem puts_sorted {p a : Int} (hp : 2 ≤ p) (a0 : 0 ≤ a) : ∀ k : Nat, (puts p a k).Pairwise (· ≤ ·) ∧ ∀ x, x ∈ puts p a k → room p a ≤ x ∧ x ≤ room p (grow p k a)
  | 0 => ⟨List.Pairwise.nil, fun x hx => absurd hx List.not_mem_nil⟩
  | k + 1 => by
    obtain ⟨h1, h2⟩ := puts_sorted hp a0 k
    have g := (grow_le hp k a0).1
    have r := room_pos hp g
    have up : room p (grow p k a) ≤ room p (grow p (k + 1) a) := room_mono hp (show grow p k a ≤ grow p k a + room p (grow p k a) by omega)
    have lo : room p a ≤ room p (grow p k a) := room_mono hp (by have := grow_add hp k a0; omega)
    rw [puts_succ]
    refine ⟨List.pairwise_append.mpr ⟨h1, List.pairwise_singleton _ _, fun x hx y hy => ?_⟩, fun x hx => ?_⟩
    · rw [List.mem_singleton.mp hy]
      exact (h2 x hx).2
    · rcases List.mem_append.mp hx with hx | hx
      · have := h2 x hx
        exact ⟨this.1, by omega⟩
      · rw [List.mem_singleton.mp hx]
        exact ⟨lo, up⟩
theorem mend_sorted {p : Int} (hp : 2 ≤ p) : ∀ {l : List Int}, (∀ c, c ∈ l → 1 ≤ c) → (mendL p l).Pairwise (· ≤ ·) ∧ ∀ x, x ∈ mendL p l → 1 ≤ x ∧ x ≤ room p (mendA p l)
  | [], _ => ⟨List.Pairwise.nil, fun x hx => absurd hx List.not_mem_nil⟩
  | c :: l, h => by
    have hl : ∀ c, c ∈ l → 1 ≤ c := fun x hx => h x (List.mem_cons_of_mem _ hx)
    have c1 := h c List.mem_cons_self
    obtain ⟨h1, h2⟩ := mend_sorted hp hl
    have a0 := mendA_nonneg hp hl
    obtain ⟨g1, g2⟩ := puts_sorted hp a0 (stp p c 400 (mendA p l))
    have ga := grow_add hp (stp p c 400 (mendA p l)) a0
    have up : room p (grow p (stp p c 400 (mendA p l)) (mendA p l)) ≤ room p (mendA p (c :: l)) := room_mono hp (show _ ≤ grow p (stp p c 400 (mendA p l)) (mendA p l) + c by omega)
    have up2 : room p (mendA p l) ≤ room p (grow p (stp p c 400 (mendA p l)) (mendA p l)) := room_mono hp (by omega)
    have r1 := room_pos hp a0
    refine ⟨List.pairwise_append.mpr ⟨h1, g1, fun x hx y hy => Int.le_trans (h2 x hx).2 (g2 y hy).1⟩, fun x hx => ?_⟩
    rcases List.mem_append.mp hx with hx | hx
    · have := h2 x hx
      exact ⟨this.1, by omega⟩
    · have := g2 x hx
      exact ⟨by omega, by omega⟩
/-- all that a law asks of the coins that are put -/
theorem mL_facts {p : Int} {ms : List Int} (hp : 2 ≤ p) (h5 : p ≤ 5) (mb : ∀ c, c ∈ ms → 1 ≤ c ∧ c ≤ 1000000000) (ms2 : ms.Pairwise (· ≤ ·)) :
    (mL p ms).Pairwise (· ≤ ·) ∧ (∀ x, x ∈ mL p ms → 1 ≤ x) ∧ (∀ zs : List Int, zs.Perm (ms ++ mL p ms) → zs.Pairwise (· ≤ ·) → Srv p 0 zs) ∧ decide (mL p ms = []) = srvB p ms ∧ (mL p ms).length ≤ 400 * ms.length := by
  have rb : ∀ c, c ∈ ms.reverse → 1 ≤ c ∧ c ≤ 1000000000 := fun c hc => mb c (List.mem_reverse.mp hc)
  obtain ⟨s1, s2⟩ := mend_sorted hp (l := ms.reverse) fun c hc => (rb c hc).1
  obtain ⟨_, ks, k1, k2, k3⟩ := mend_good hp h5 rb
  have sv : ∀ zs : List Int, zs.Perm (ms ++ mL p ms) → zs.Pairwise (· ≤ ·) → Srv p 0 zs := fun zs z1 z2 => by
    have pr : (ms.reverse ++ mendL p ms.reverse).Perm (ms ++ mL p ms) := List.Perm.append_right _ (List.reverse_perm ms)
    rw [PySem.W.os_sorted_one (z1.trans (k1.trans pr).symm) z2 k2]
    exact k3
  refine ⟨s1, fun x hx => (s2 x hx).1, sv, ?_, ?_⟩
  · by_cases e : mL p ms = []
    · rw [decide_eq_true e]
      exact (srvB_true (sv ms (by rw [e, List.append_nil]) ms2)).symm
    · rw [decide_eq_false e]
      refine (srvB_false fun v => e ?_).symm
      have f := fewest (L := []) hp ms2 (fun x hx => by rw [List.append_nil] at hx; have := (mb x hx).1; omega) (by rw [List.append_nil]) v
      exact List.length_eq_zero_iff.mp (Nat.le_zero.mp f)
  · have ln : ∀ l : List Int, (mendL p l).length ≤ 400 * l.length := fun l => by
      induction l with
      | nil => exact Nat.le_refl 0
      | cons c l ih =>
        have := stp_le (p := p) (c := c) 400 (mendA p l)
        show (mendL p l ++ puts p (mendA p l) _).length ≤ _
        rw [List.length_append, puts_len, List.length_cons]
        omega
    have := ln ms.reverse
    rwa [List.length_reverse] at this
theorem pow_table : ∀ (h : Fin 61) (c : Fin 7), manyW ((h : Nat) : Int) c ≤ 800 → (h : Nat) ^ (c : Nat) ≤ 13000000 := by decide +kernel
theorem pow_bound {h : Int} {c k : Nat} (h1 : 1 ≤ h) (h60 : h ≤ 60) (c6 : c ≤ 6) (m : manyW h c ≤ 800) (hk : k ≤ c) : h.toNat ^ k ≤ 13000000 := by
  have e : ((h.toNat : Nat) : Int) = h := by omega
  have z := pow_table ⟨h.toNat, by omega⟩ ⟨c, by omega⟩ (by show manyW ((h.toNat : Nat) : Int) c ≤ 800; rw [e]; exact m)
  exact Nat.le_trans (Nat.pow_le_pow_right (by omega) hk) z
def sp_l_right (_ : PySem.W.Frag) : Sp := fun vs H Q _ => ∃ (a : Addr) (ns : List Int) (p : Int), vs = [.ref a, .int p] ∧ H a = some (.lst (ns.map V.int)) ∧ ns.length ≤ 12 ∧ (∀ n, n ∈ ns → 1 ≤ n ∧ n ≤ 1000000000) ∧ 2 ≤ p ∧ p ≤ 5 ∧ ∀ H', Same H H' → Q (.bl true) H'
theorem len_l_right {vs H Q E} (h : sp_l_right K vs H Q E) : vs.length = 2 := by
  obtain ⟨_, _, _, rfl, _⟩ := h; rfl
theorem ok_l_right {f : Addr} {fd : FuncData} (F : Fun K "_law_right" "_law_right" s_l_right f fd) (T : Txt K mg cBadPool cBadPeople) : FnOk P w K mg base CX0 5 f fd ps_l_right (sp_l_right K) := by
  obtain ⟨f_mending_coins, fd_mending_coins, F_mending_coins, m_mending_coins, b_mending_coins⟩ := T.d_mending_coins
  have G_mending_coins : FnOk P w K mg base (L2.CX P w) 4 f_mending_coins fd_mending_coins ps_mending_coins (sp_mending_coins K cBadPool cBadPeople) := ok_mending_coins F_mending_coins T
  obtain ⟨f_l_is_coins, fd_l_is_coins, F_l_is_coins, m_l_is_coins, b_l_is_coins⟩ := T.d_l_is_coins
  have G_l_is_coins : FnOk P w K mg base CX0 2 f_l_is_coins fd_l_is_coins ps_l_is_coins (sp_l_is_coins K) := ok_l_is_coins F_l_is_coins T
  obtain ⟨f_l_walk, fd_l_walk, F_l_walk, m_l_walk, b_l_walk⟩ := T.d_l_walk
  have G_l_walk : FnOk P w K mg base CX0 2 f_l_walk fd_l_walk ps_l_walk (sp_l_walk K) := ok_l_walk F_l_walk T
  obtain ⟨f_l_serves, fd_l_serves, F_l_serves, m_l_serves, b_l_serves⟩ := T.d_l_serves
  have G_l_serves : FnOk P w K mg base CX0 2 f_l_serves fd_l_serves ps_l_serves (sp_l_serves K) := ok_l_serves F_l_serves T
  obtain ⟨f_l_many_lots, fd_l_many_lots, F_l_many_lots, m_l_many_lots, b_l_many_lots⟩ := T.d_l_many_lots
  have G_l_many_lots : FnOk P w K mg base CX0 1 f_l_many_lots fd_l_many_lots ps_l_many_lots (sp_l_many_lots K) := ok_l_many_lots F_l_many_lots T
  obtain ⟨f_l_lots, fd_l_lots, F_l_lots, m_l_lots, b_l_lots⟩ := T.d_l_lots
  have G_l_lots : FnOk P w K mg base CX0 1 f_l_lots fd_l_lots ps_l_lots (sp_l_lots K) := ok_l_lots F_l_lots T
  refine F.ok (k := 4) sc_l_right (fun vs H Q E h => len_l_right h) (fun cdv A outer s H vs Q E hr h => ?_)
  refine ⟨_, (pss_cons (ps_set (i := 2) sc_l_right.nd rfl (Or.inl rfl) (pe_call G_mending_coins (hr.mono (by decide)) (by rfl) m_mending_coins F_mending_coins.kp b_mending_coins .nil passL (pa_cons (pv 0) (pa_cons (pv 1) pa_nil))))
      (pss_cons (ps_if (PW.pt (pw_or (pt_not (pt_val (pe_call G_l_is_coins (hr.mono (by decide)) (by rfl) m_l_is_coins F_l_is_coins.kp b_l_is_coins .nil pass0 (pa_cons (pv 2) pa_nil)))) (pw_or1 (pt_cmpR (op_neD hr.units) (pv 2) (pe_call G_l_walk (hr.mono (by decide)) (by rfl) m_l_walk F_l_walk.kp b_l_walk .nil pass0 (pa_cons (pv 0) (pa_cons (pv 1) pa_nil))) (nomark _))))) (pss_one (ps_ret pe_bl)) pss_nil)
      (pss_cons (ps_if (PW.pt (pw_or (pt_cmpR op_ne (pe_cmpR (op_eqD hr.units) (pv 2) (pe_tup pa_nil) (nomark _)) (pe_call G_l_serves (hr.mono (by decide)) (by rfl) m_l_serves F_l_serves.kp b_l_serves .nil pass0 (pa_cons (pv 0) (pa_cons (pv 1) pa_nil))) (nomark _)) (pw_or1 (pt_not (pt_val (pe_call G_l_serves (hr.mono (by decide)) (by rfl) m_l_serves F_l_serves.kp b_l_serves .nil pass0 (pa_cons (pe_op op_cat (pe_callTy call_list_of (by rfl) T.n_list (by decide +kernel) (pa_cons (pv 0) pa_nil)) (pe_callTy call_list_of (by rfl) T.n_list (by decide +kernel) (pa_cons (pv 2) pa_nil))) (pa_cons (pv 1) pa_nil)))))))) (pss_one (ps_ret pe_bl)) pss_nil)
      (pss_cons (ps_if (pt_cmpR (op_eqD hr.units) (pv 2) (pe_tup pa_nil) (nomark _)) (pss_one (ps_ret pe_bl)) pss_nil)
      (pss_cons (ps_set (i := 3) sc_l_right.nd rfl (Or.inl rfl) (pe_op op_sub (pe_callB call_len_seq (by rfl) T.n_len (by decide +kernel) (pa_cons (pv 2) pa_nil)) pe_int))
      (pss_cons (ps_if (PW.pt (pw_or (pt_cmpR op_gt (pv 3) pe_int (nomark _)) (pw_or (pt_cmpR op_gt (pe_callB (cr_max rfl) (by rfl) T.n_max (by decide +kernel) (pa_cons (pv 0) pa_nil)) pe_int (nomark _)) (pw_or1 (pt_cmpR op_gt (pe_call G_l_many_lots (hr.mono (by decide)) (by rfl) m_l_many_lots F_l_many_lots.kp b_l_many_lots .nil pass0 (pa_cons (pv 3) (pa_cons (pe_callB (cr_max rfl) (by rfl) T.n_max (by decide +kernel) (pa_cons (pv 0) pa_nil)) pa_nil))) pe_int (nomark _)))))) (pss_one (ps_ret pe_bl)) pss_nil)
      (pss_one (ps_ret (pe_cmpR (op_eqD hr.units) (pe_lc (own := [("_law_lot", 4)]) (g := gName 4) (tt := _) rfl sc_l_right.nd (pi_list (pe_call G_l_lots (hr.mono (by decide)) (by rfl) m_l_lots F_l_lots.kp b_l_lots .nil pass0 (pa_cons (pv 3) (pa_cons (pe_callB (cr_max rfl) (by rfl) T.n_max (by decide +kernel) (pa_cons (pv 0) pa_nil)) pa_nil)))) (blkOk_by (N := nm_l_right) (sc := defScope s_l_right) (by decide +kernel)) (fun _ _ _ _ _ => (pg_name (i := 4) sc_l_right.nd rfl (Or.inl rfl))) (fun _ _ _ _ _ => (pts_one (pt_val (pe_call G_l_serves (hr.mono (by decide)) (by rfl) m_l_serves F_l_serves.kp b_l_serves .nil pass0 (pa_cons (pe_op op_cat (pe_callTy (call_list_ofK (K := K) rfl) (by rfl) T.n_list (by decide +kernel) (pa_cons (pv 0) pa_nil)) (pe_callTy (call_list_ofK (K := K) rfl) (by rfl) T.n_list (by decide +kernel) (pa_cons (pv 4) pa_nil))) (pa_cons (pv 1) pa_nil)))))) (fun _ _ _ _ _ => (pv 4))) (pe_lst pa_nil) (nomark _)))))))))), ?_⟩
  obtain ⟨a, ns, p, rfl, ha, hl, nb, p0, p5, k⟩ := h
  simp only [tSeq, tAsg, tDrop, tRet, tRetN, tIfS, tNext, tTest, tB, tNot, tAnd, tOr, tChain, tIf, tAndV, tOrV, tNotV, tOp, tUn, tCB, tCons, tNil, tVar, tC, tCall, tCallS, gName, rI, rI0, rU, rEq, rNe, tTup, tLst, gSub, rSetL, rIxL, rIxT, L2.start, List.map_cons, List.map_nil, List.length_cons, List.length_nil, Nat.reduceAdd, Nat.reduceSub, List.replicate_succ, List.replicate_zero, List.getElem?_cons_zero, List.getElem?_cons_succ, List.set_cons_zero, List.set_cons_succ, Option.some.injEq, exists_eq_left', exists_eq_left, exists_and_left, V.int.injEq, V.bl.injEq, V.ref.injEq, V.str.injEq, List.cons.injEq, and_true, true_and, List.nil_append, List.cons_append, List.append_nil, reduceCtorEq, false_and, exists_false, or_false, false_or, and_false, Int.reduceNeg, decide_eq_true_eq, Bool.not_eq_true', decide_eq_false_iff_not, and_assoc, tYes, ↓reduceIte, wipe, Bool.false_eq_true, Bool.true_eq_false, cxOf, false_implies, true_implies, implies_true, forall_const]
  refine mend_call (.inr ha) hl nb p0 p5 fun H1 b ms s1 eb p1 p2 => ?_
  have mb : ∀ c, c ∈ ms → 1 ≤ c ∧ c ≤ 1000000000 := fun c hc => nb c (p1.subset hc)
  have ml : ms.length ≤ 12 := by rw [p1.length_eq]; exact hl
  obtain ⟨f1, f2, f3, f4, f5⟩ := mL_facts p0 p5 mb p2
  have few := fun (L S : List Int) (h : ∀ x, x ∈ ms ++ L → 0 ≤ x) hS v => fewest (L := L) (S := S) p0 p2 h hS v
  refine ⟨b, mL p ms, rfl, eb, f2, f1, fun H2 s2 => ⟨true, rfl, ?_⟩⟩
  rw [if_neg (fun z => by cases z)]
  refine ⟨a, ns, p, rfl, .inr (s2 _ _ (s1 _ _ ha)), hl, nb, p0, p5, fun H3 b2 ms2 s3 eb2 q1 q2 => ?_⟩
  rw [PySem.W.os_sorted_one (q1.trans p1.symm) q2 p2] at eb2
  have s13 := s1.trans (s2.trans s3)
  have eb3 := s3 _ _ (s2 _ _ eb)
  refine ne_tupI eb3 eb2 ⟨_, rfl, ?_⟩
  rw [decide_eq_true rfl, if_neg (fun z => by cases z)]
  refine ⟨Nat.zero_le _, fun c4 hc4 => eq_tupI (ms := []) ((Same.new hc4) _ _ eb3) upd_same ?_⟩
  have s4 := s13.trans (Same.new (o := HO.tup []) hc4)
  have eb4 := (Same.new (o := HO.tup []) hc4) _ _ eb3
  refine serves_call (.inr (s4 _ _ ha)) p0 p5 fun ms5 H5 s5 y1 y2 => ⟨rfl, ?_⟩
  rw [PySem.W.os_sorted_one (y1.trans p1.symm) y2 p2, f4, if_neg (fun z => z rfl)]
  have s05 := s4.trans s5
  have eb5 := s5 _ _ eb4
  refine ⟨_, .inl (SqL.of (s05 _ _ ha)), fun l hl5 => ⟨b, rfl, _, .inr (SqT.of ((Same.new hl5) _ _ eb5)), fun l1 hl1 => ?_⟩⟩
  refine ⟨l, l1, _, _, rfl, rfl, (Same.new hl1) _ _ upd_same, upd_same, by rw [List.length_map, List.length_map]; exact Nat.le_of_lt (Nat.lt_of_le_of_lt (show _ ≤ 10000 by omega) (by decide)), fun l2 hl2 => ?_⟩
  have s07 := s05.trans ((Same.new hl5).trans ((Same.new hl1).trans (Same.new (o := HO.lst (ns.map V.int ++ (mL p ms).map V.int)) hl2)))
  have eb7 := (Same.new (o := HO.lst (ns.map V.int ++ (mL p ms).map V.int)) hl2) _ _ ((Same.new hl1) _ _ ((Same.new hl5) _ _ eb5))
  refine serves_call (ns := ns ++ mL p ms) (.inr (by rw [upd_same, List.map_append])) p0 p5 fun zs H8 s8 z1 z2 => ⟨_, rfl, ?_⟩
  rw [srvB_true (f3 zs (z1.trans (List.Perm.append_right _ p1.symm)) z2), if_neg (fun z => by cases z)]
  have s08 := s07.trans s8
  have eb8 := s8 _ _ eb7
  refine ⟨Nat.zero_le _, fun c9 hc9 => eq_tupI (ms := []) ((Same.new hc9) _ _ eb8) upd_same ⟨_, rfl, ?_⟩⟩
  have s09 := s08.trans (Same.new (o := HO.tup []) hc9)
  have eb9 := (Same.new (o := HO.tup []) hc9) _ _ eb8
  clear s1 s2 s3 s13 s4 s5 s05 s07 s8 s08 eb eb2 eb3 eb4 eb5 eb7 eb8
  generalize upd H8 c9 (HO.tup []) = H9 at s09 eb9 ⊢
  by_cases en : mL p ms = []
  · rw [decide_eq_true en, if_pos rfl]
    exact k _ s09
  · rw [decide_eq_false en, if_neg (fun z => by cases z)]
    have l0 : 0 < (mL p ms).length := List.length_pos_iff.mpr en
    have nz : ns ≠ [] := fun z => by
      have y := p1.length_eq
      rw [z] at y
      have y2 : ms = [] := List.length_eq_zero_iff.mp y
      exact en (by rw [y2]; rfl)
    have ha9 := s09 _ _ ha
    have np : 0 < ns.length := List.length_pos_iff.mpr nz
    simp only [tSeq, tAsg, tDrop, tRet, tRetN, tIfS, tNext, tTest, tB, tNot, tAnd, tOr, tChain, tIf, tAndV, tOrV, tNotV, tOp, tUn, tCB, tCons, tNil, tVar, tC, tCall, tCallS, gName, rI, rI0, rU, rEq, rNe, tTup, tLst, gSub, rSetL, rIxL, rIxT, L2.start, List.map_cons, List.map_nil, List.length_cons, List.length_nil, Nat.reduceAdd, Nat.reduceSub, List.replicate_succ, List.replicate_zero, List.getElem?_cons_zero, List.getElem?_cons_succ, List.set_cons_zero, List.set_cons_succ, Option.some.injEq, exists_eq_left', exists_eq_left, exists_and_left, V.int.injEq, V.bl.injEq, V.ref.injEq, V.str.injEq, List.cons.injEq, and_true, true_and, List.nil_append, List.cons_append, List.append_nil, reduceCtorEq, false_and, exists_false, or_false, false_or, and_false, Int.reduceNeg, decide_eq_true_eq, Bool.not_eq_true', decide_eq_false_iff_not, and_assoc, tYes, ↓reduceIte, wipe, Bool.false_eq_true, Bool.true_eq_false, cxOf, false_implies, true_implies, implies_true, forall_const, rMax, sp_l_many_lots]
    refine ⟨_, .inr (SqT.of eb9), ?_⟩
    rw [List.length_map]
    split
    · exact k _ s09
    · rename_i g6
      refine ⟨ns, SqL.of ha9, np, fun m hm mx => ?_⟩
      split
      · exact k _ s09
      · rename_i g60
        refine ⟨ns, SqL.of ha9, np, fun m2 hm2 mx2 => ⟨by omega, by omega, (nb m2 hm2).1, by have := mx m2 hm2; omega, ?_⟩⟩
        split
        · exact k _ s09
        · rename_i g800
          refine ⟨_, rfl, _, rfl, a, ns, rfl, SqL.of ha9, np, fun m3 hm3 mx3 => ⟨_, m3, rfl, by omega, by omega, (nb m3 hm3).1, by have := mx m3 hm3; omega, fun kk hkk => ?_, fun H10 l rs s10 el rok => ?_⟩⟩
          · have e3 : m3 = m2 := Int.le_antisymm (mx2 m3 hm3) (mx3 m2 hm2)
            rw [e3]
            exact pow_bound (nb m2 hm2).1 (by have := mx m2 hm2; omega) (by omega) (Int.not_lt.mp g800) hkk
          · have ha10 := s10 _ _ ha9
            refine ⟨l, rfl, ⟨_, SqL.of el⟩, fun D hD => lc_list (K := K) (a := l) (xs := rs.map V.ref) (fun i h' => Same H10 h' ∧ h' D = some (.lst [])) ⟨Same.new hD, upd_same⟩ (fun i h' _ ⟨s, _⟩ => SqL.of (s _ _ el)) ?_ ?_⟩
            · rintro i y h' hi ⟨s, eD⟩
              obtain ⟨r, hr, rfl⟩ := List.mem_map.mp (List.mem_of_getElem? hi)
              obtain ⟨ks, er, kl, kb⟩ := rok r hr
              have er' := s _ _ er
              have ha' := s _ _ ha10
              simp only [tSeq, tAsg, tDrop, tRet, tRetN, tIfS, tNext, tTest, tB, tNot, tAnd, tOr, tChain, tIf, tAndV, tOrV, tNotV, tOp, tUn, tCB, tCons, tNil, tVar, tC, tCall, tCallS, gName, rI, rI0, rU, rEq, rNe, tTup, tLst, gSub, rSetL, rIxL, rIxT, L2.start, List.map_cons, List.map_nil, List.length_cons, List.length_nil, Nat.reduceAdd, Nat.reduceSub, List.replicate_succ, List.replicate_zero, List.getElem?_cons_zero, List.getElem?_cons_succ, List.set_cons_zero, List.set_cons_succ, Option.some.injEq, exists_eq_left', exists_eq_left, exists_and_left, V.int.injEq, V.bl.injEq, V.ref.injEq, V.str.injEq, List.cons.injEq, and_true, true_and, List.nil_append, List.cons_append, List.append_nil, reduceCtorEq, false_and, exists_false, or_false, false_or, and_false, Int.reduceNeg, decide_eq_true_eq, Bool.not_eq_true', decide_eq_false_iff_not, and_assoc, tYes, ↓reduceIte, wipe, Bool.false_eq_true, Bool.true_eq_false, cxOf, false_implies, true_implies, implies_true, forall_const, rListOf]
              refine ⟨_, .inl (SqL.of ha'), fun l1 h1 => ⟨_, .inr (SqT.of ((Same.new h1) _ _ er')), fun l2 h2 => ?_⟩⟩
              refine ⟨l1, l2, _, _, rfl, rfl, (Same.new h2) _ _ upd_same, upd_same, by rw [List.length_map, List.length_map, kl]; exact Nat.le_of_lt (Nat.lt_of_le_of_lt (show _ ≤ 10000 by omega) (by decide)), fun l3 h3 => ?_⟩
              have sn := (Same.new (o := HO.lst (ns.map V.int)) h1).trans ((Same.new (o := HO.lst (ks.map V.int)) h2).trans (Same.new (o := HO.lst (ns.map V.int ++ ks.map V.int)) h3))
              refine serves_call (ns := ns ++ ks) (.inr (by rw [upd_same, List.map_append])) p0 p5 fun zs H8 s8 z1 z2 => ⟨_, rfl, ?_⟩
              have no : ¬ Srv p 0 zs := fun v => by
                have f := few ks zs (fun x hx => by
                  rcases List.mem_append.mp hx with hx | hx
                  · have := (mb x hx).1
                    omega
                  · have := (kb x hx).1
                    omega) (z1.trans (List.Perm.append_right _ p1.symm)) v
                omega
              rw [srvB_false no, if_neg (fun z => by cases z)]
              exact ⟨s.trans (sn.trans s8), s8 _ _ (sn _ _ eD)⟩
            · rintro h' ⟨s, eD⟩
              exact ⟨Nat.zero_le _, fun l2 hl2 => eq_ints (ns := []) (SqL.of ((Same.new hl2) _ _ eD)) (SqL.of upd_same) (k _ (s09.trans (s10.trans (s.trans (Same.new hl2)))))⟩
end
end My
set_option Elab.async false
set_option linter.all false
set_option maxRecDepth 100000
set_option maxHeartbeats 4000000
namespace My
open PySem PySem.Spec PyProof.Rows L2 Gen
section
variable {P : Program} {w : World} {K : PySem.W.Frag} {mg : Str → Option Value} {base : Heap} { cBadPool cBadPeople : Addr}
theorem plain_row {H H' : Hp} {a : Addr} {xs : List V} (hp : Plain H (.ref a)) (s : Same H H') (r : Row H' a xs) : Row H a xs := by
  rcases hp with ⟨ys, h⟩ | ⟨ys, h⟩ | ⟨ys, h⟩
  · rw [← Row.one (H := H') (.inl (s _ _ h)) r]
    exact .inl h
  · rw [← Row.one (H := H') (.inr (s _ _ h)) r]
    exact .inr h
  · rcases r with r | r <;> (rw [s _ _ h] at r; cases r)
theorem arg_same {H H' : Hp} {x : V} (h : Arg H x) (s : Same H H') : Arg H' x := ⟨h.1.same s, fun a xs e r y hy => by
  subst e
  exact (h.2 a xs rfl (plain_row h.1 s r) y hy).same s⟩
theorem few_same {H H' : Hp} {x : V} (h : Plain H x) (n : ¬ FewRow H x) (s : Same H H') : ¬ FewRow H' x := fun ⟨a, xs, e, r, l⟩ => n ⟨a, xs, e, by
  subst e
  exact plain_row h s r, l⟩
theorem bad_same {H H' : Hp} {x : V} {a : Addr} {xs : List V} {i : Nat} {y : V} (b : BadAt H x a xs i y) (s : Same H H') : BadAt H' x a xs i y := ⟨b.1, b.2.1.same s, b.2.2⟩
theorem ne_trip {H : Hp} {a b : Addr} {x y : Str} {n : Int} {Q : VK} (ha : H a = some (.tup [.str x, .int n, .str y])) (hb : H b = some (.tup [.str x, .int n, .str y])) (sx : SeqAt.shaped (.tuple [.str x, .int n, .str y]) = true) (q : Q (.bl false) H) : rNeD K (.ref a) (.ref b) H Q := by
  refine ⟨.tuple [.str x, .int n, .str y], .tuple [.str x, .int n, .str y], .tup (SqT.of ha) (.cons (.str _) (.cons (.int _) (.cons (.str _) .nil))), .tup (SqT.of hb) (.cons (.str _) (.cons (.int _) (.cons (.str _) .nil))), sx, sx, ?_⟩
  have e : PyData.eqv (.tuple [.str x, .int n, .str y]) (.tuple [.str x, .int n, .str y]) = true := by simp [PyData.eqv, PyData.eqvAll]
  rw [e]
  exact q
theorem eq_pair {H : Hp} {a b : Addr} {x : Str} {n : Int} {Q : VK} (ha : H a = some (.tup [.str x, .int n])) (hb : H b = some (.tup [.str x, .int n])) (sx : SeqAt.shaped (.tuple [.str x, .int n]) = true) (q : Q (.bl true) H) : rEqD K (.ref a) (.ref b) H Q := by
  refine ⟨.tuple [.str x, .int n], .tuple [.str x, .int n], .tup (SqT.of ha) (.cons (.str _) (.cons (.int _) .nil)), .tup (SqT.of hb) (.cons (.str _) (.cons (.int _) .nil)), sx, sx, ?_⟩
  have e : PyData.eqv (.tuple [.str x, .int n]) (.tuple [.str x, .int n]) = true := by simp [PyData.eqv, PyData.eqvAll]
  rw [e]
  exact q
theorem shaped_trip (n : Int) (u : Str) (h : u = "coin" ∨ u = "many") : SeqAt.shaped (.tuple [.str ("pool" : Str), .int n, .str u]) = true := by
  rcases h with rfl | rfl <;> simp [SeqAt.shaped, PyData.canLay0, PyData.canLayAll0, PyData.depth, PyData.depthAll] <;> decide +kernel
/-- what is told of X: the word u and the place i -/
def Told (H : Hp) (X : V) (i : Int) (u : Str) : Prop := Arg H X ∧ ((¬ FewRow H X ∧ i = 0 ∧ u = "many") ∨ ∃ (a : Addr) (xs : List V) (j : Nat) (z : V), BadAt H X a xs j z ∧ i = j ∧ u = "coin")
theorem Told.same {H H' : Hp} {X : V} {i : Int} {u : Str} (t : Told H X i u) (s : Same H H') : Told H' X i u := by
  obtain ⟨a, ⟨n, e1, e2⟩ | ⟨b, xs, j, z, c, e1, e2⟩⟩ := t
  · exact ⟨arg_same a s, .inl ⟨few_same a.1 n s, e1, e2⟩⟩
  · exact ⟨arg_same a s, .inr ⟨b, xs, j, z, bad_same c s, e1, e2⟩⟩
theorem Told.wd {H : Hp} {X : V} {i : Int} {u : Str} (t : Told H X i u) : u = "coin" ∨ u = "many" := by
  obtain ⟨a, ⟨n, e1, e2⟩ | ⟨b, xs, j, z, c, e1, e2⟩⟩ := t
  · exact .inr e2
  · exact .inl e2
theorem told_bad {H : Hp} {X y : V} {i : Int} {u : Str} {Q : VK} {E : XK} (t : Told H X i u) (hy : Plain H y) (k : ∀ H' p, Same H H' → H' p = some (.tup [.str "pool", .int i, .str u]) → Q (.ref p) H') : sp_l_told K [X, y] H Q E := by
  obtain ⟨a, ⟨n, rfl, rfl⟩ | ⟨b, xs, j, z, c, rfl, rfl⟩⟩ := t
  · exact ⟨X, y, rfl, a, hy, .inl ⟨n, fun H' p s _ e => k H' p s e⟩⟩
  · exact ⟨X, y, rfl, a, hy, .inr (.inl ⟨b, xs, j, z, c, fun H' p s _ e => k H' p s e⟩)⟩
theorem plain_but {h q : Addr} {H H' : Hp} {x : V} (hd : HandAt H' h q) (b : But h H H') (p : Plain H x) : Plain H' x := by
  cases x with
  | ref a =>
    by_cases e : a = h
    · obtain ⟨_, _, _, _, h1, _⟩ := hd.ex
      rw [e]
      exact .inr (.inl ⟨_, h1⟩)
    · rcases p with ⟨xs, p⟩ | ⟨xs, p⟩ | ⟨xs, p⟩
      · exact .inl ⟨xs, b _ _ p e⟩
      · exact .inr (.inl ⟨xs, b _ _ p e⟩)
      · exact .inr (.inr ⟨xs, b _ _ p e⟩)
  | _ => exact p
theorem plain_row' {H : Hp} {a : Addr} {xs : List V} (r : Row H a xs) : Plain H (.ref a) := r.elim (fun h => .inl ⟨_, h⟩) fun h => .inr (.inl ⟨_, h⟩)
theorem arg_row {H : Hp} {a : Addr} {xs : List V} (r : Row H a xs) (h : ∀ y, y ∈ xs → Plain H y) : Arg H (.ref a) := ⟨plain_row' r, fun b ys e r2 y hy => by
  cases e
  rw [← Row.one r r2] at hy
  exact h y hy⟩
theorem few_row {H : Hp} {a : Addr} {xs : List V} (r : Row H a xs) (h : 12 < xs.length) : ¬ FewRow H (.ref a) := fun ⟨b, ys, e, r2, l⟩ => by
  cases e
  rw [← Row.one r r2] at l
  omega
theorem arg_no {H : Hp} {x : V} (hp : Plain H x) (n : ∀ a, x ≠ .ref a) : Arg H x ∧ ¬ FewRow H x := ⟨⟨hp, fun a _ e => absurd e (n a)⟩, fun ⟨a, _, e, _⟩ => n a e⟩
theorem arg_dk {H : Hp} {a : Addr} {kvs : List (Key × V)} (h : H a = some (.dK kvs)) : Arg H (.ref a) ∧ ¬ FewRow H (.ref a) := by
  have no : ∀ b xs, V.ref a = .ref b → ¬ Row H b xs := fun b xs e r => by
    cases e
    rcases r with r | r <;> (rw [h] at r; cases r)
  exact ⟨⟨.inr (.inr ⟨_, h⟩), fun b xs e r => absurd r (no b xs e)⟩, fun ⟨b, xs, e, r, _⟩ => no b xs e r⟩
theorem plain_upd {H : Hp} {x : V} {l : Addr} {o : HO} (hp : Plain H x) (n : x ≠ .ref l) : Plain (upd H l o) x := by
  cases x with
  | ref a =>
    have na : a ≠ l := fun z => n (by rw [z])
    rcases hp with ⟨xs, h⟩ | ⟨xs, h⟩ | ⟨xs, h⟩
    · exact .inl ⟨xs, by rw [upd_ne na]; exact h⟩
    · exact .inr (.inl ⟨xs, by rw [upd_ne na]; exact h⟩)
    · exact .inr (.inr ⟨xs, by rw [upd_ne na]; exact h⟩)
  | _ => exact hp
theorem plain_off {H : Hp} {x : V} {l : Addr} (hp : Plain H x) (f : H l = none) : x ≠ .ref l := fun e => by
  subst e
  rcases hp with ⟨xs, h⟩ | ⟨xs, h⟩ | ⟨xs, h⟩ <;> (rw [f] at h; cases h)
def sp_l_refusals_right (_ : PySem.W.Frag) : Sp := fun vs H Q _ => ∃ (h q a : Addr) (ns : List Int) (p : Int), vs = [.ref h, .ref a, .int p] ∧ HandAt H h q ∧ H a = some (.lst (ns.map V.int)) ∧ a ≠ h ∧ ns.length ≤ 12 ∧ (∀ n, n ∈ ns → 1 ≤ n ∧ n ≤ 1000000000) ∧ 2 ≤ p ∧ p ≤ 5 ∧ ∀ H', Q (.bl true) H'
theorem len_l_refusals_right {vs H Q E} (h : sp_l_refusals_right K vs H Q E) : vs.length = 3 := by
  obtain ⟨_, _, _, _, _, rfl, _⟩ := h; rfl
theorem ok_l_refusals_right {f : Addr} {fd : FuncData} (F : Fun K "_law_refusals_right" "_law_refusals_right" s_l_refusals_right f fd) (T : Txt K mg cBadPool cBadPeople) : FnOk P w K mg base CX0 6 f fd ps_l_refusals_right (sp_l_refusals_right K) := by
  obtain ⟨f_l_odd_people, fd_l_odd_people, F_l_odd_people, m_l_odd_people, b_l_odd_people⟩ := T.d_l_odd_people
  have G_l_odd_people : FnOk P w K mg base CX0 4 f_l_odd_people fd_l_odd_people ps_l_odd_people (sp_l_odd_people K) := ok_l_odd_people F_l_odd_people T
  obtain ⟨f_l_draw, fd_l_draw, F_l_draw, m_l_draw, b_l_draw⟩ := T.d_l_draw
  have G_l_draw : FnOk P w K mg base CX0 2 f_l_draw fd_l_draw ps_l_draw (sp_l_draw K) := ok_l_draw F_l_draw T
  obtain ⟨f_l_pick, fd_l_pick, F_l_pick, m_l_pick, b_l_pick⟩ := T.d_l_pick
  have G_l_pick : FnOk P w K mg base CX0 3 f_l_pick fd_l_pick ps_l_pick (sp_l_pick K) := ok_l_pick F_l_pick T
  obtain ⟨f_l_told, fd_l_told, F_l_told, m_l_told, b_l_told⟩ := T.d_l_told
  have G_l_told : FnOk P w K mg base CX0 5 f_l_told fd_l_told ps_l_told (sp_l_told K) := ok_l_told F_l_told T
  refine F.ok (k := 5) sc_l_refusals_right (fun vs H Q E h => len_l_refusals_right h) (fun cdv A outer s H vs Q E hr h => ?_)
  refine ⟨_, (pss_cons (ps_set (i := 3) sc_l_refusals_right.nd rfl (Or.inl rfl) (pe_call G_l_odd_people (hr.mono (by decide)) (by rfl) m_l_odd_people F_l_odd_people.kp b_l_odd_people .nil pass0 (pa_cons (pv 0) pa_nil)))
      (pss_cons (ps_set (i := 4) sc_l_refusals_right.nd rfl (Or.inl rfl) (pe_slice sl_list (pe_op op_cat (pv 1) (pe_lst (pa_cons pe_int pa_nil))) po_none (po_some pe_int)))
      (pss_cons (ps_set (i := 5) sc_l_refusals_right.nd rfl (Or.inl rfl) (pe_call G_l_draw (hr.mono (by decide)) (by rfl) m_l_draw F_l_draw.kp b_l_draw .nil pass0 (pa_cons (pv 0) (pa_cons (pe_callB call_len_seq (by rfl) T.n_len (by decide +kernel) (pa_cons (pv 4) pa_nil)) pa_nil))))
      (pss_cons (ps_asg (pe_call G_l_pick (hr.mono (by decide)) (by rfl) m_l_pick F_l_pick.kp b_l_pick .nil pass0 (pa_cons (pv 0) (pa_cons (pe_lst (pa_cons pe_int (pa_cons (pe_un un_neg pe_int) (pa_cons (pe_op op_add (pe_op op_pow pe_int pe_int) pe_int) (pa_cons pe_non (pa_cons pe_bl (pa_cons pe_str (pa_cons (pe_tup (pa_cons pe_int pa_nil)) pa_nil)))))))) pa_nil))) (pg_sub (pv 4) (pv 5) set_list))
      (pss_cons (ps_set (i := 6) sc_l_refusals_right.nd rfl (Or.inl rfl) (pe_tup (pa_cons pe_str (pa_cons (pv 5) (pa_cons pe_str pa_nil)))))
      (pss_cons (ps_if (pt_cmpR op_eq (pe_call G_l_draw (hr.mono (by decide)) (by rfl) m_l_draw F_l_draw.kp b_l_draw .nil pass0 (pa_cons (pv 0) (pa_cons pe_int pa_nil))) pe_int (nomark _)) (pss_cons (ps_set (i := 4) sc_l_refusals_right.nd rfl (Or.inl rfl) (pe_call G_l_pick (hr.mono (by decide)) (by rfl) m_l_pick F_l_pick.kp b_l_pick .nil pass0 (pa_cons (pv 0) (pa_cons (pe_lst (pa_cons pe_non (pa_cons pe_int (pa_cons pe_str (pa_cons (pe_op op_rep (pe_lst (pa_cons pe_int pa_nil)) pe_int) (pa_cons (pe_op op_repT (pe_tup (pa_cons pe_int pa_nil)) pe_int) (pa_cons pe_dnewK pa_nil))))))) pa_nil))))
      (pss_one (ps_set (i := 6) sc_l_refusals_right.nd rfl (Or.inl rfl) (pe_tup (pa_cons pe_str (pa_cons pe_int (pa_cons pe_str pa_nil))))))) pss_nil)
      (pss_cons (ps_if (PW.pt (pw_or (pt_cmpR (op_neD hr.units) (pe_call G_l_told (hr.mono (by decide)) (by rfl) m_l_told F_l_told.kp b_l_told .nil pass0 (pa_cons (pv 4) (pa_cons (pv 2) pa_nil))) (pv 6) (nomark _)) (pw_or1 (pt_cmpR (op_neD hr.units) (pe_call G_l_told (hr.mono (by decide)) (by rfl) m_l_told F_l_told.kp b_l_told .nil pass0 (pa_cons (pv 4) (pa_cons (pv 3) pa_nil))) (pv 6) (nomark _))))) (pss_one (ps_ret pe_bl)) pss_nil)
      (pss_one (ps_ret (pe_cmpR (op_eqD hr.units) (pe_call G_l_told (hr.mono (by decide)) (by rfl) m_l_told F_l_told.kp b_l_told .nil pass0 (pa_cons (pv 1) (pa_cons (pv 3) pa_nil))) (pe_tup (pa_cons pe_str (pa_cons pe_int pa_nil))) (nomark _))))))))))), ?_⟩
  obtain ⟨h, q, a, ns, p, rfl, hh, ha, nh, hl, nb, p0, p5, k⟩ := h
  have e9 : (10 : Int) ^ Int.toNat 9 = 1000000000 := by decide
  simp only [tSeq, tAsg, tDrop, tRet, tRetN, tIfS, tNext, tTest, tB, tNot, tAnd, tOr, tChain, tIf, tAndV, tOrV, tNotV, tOp, tUn, tCB, tCons, tNil, tVar, tC, tCall, tCallS, gName, rI, rI0, rU, rEq, rNe, tTup, tLst, gSub, rSetL, rIxL, rIxT, L2.start, List.map_cons, List.map_nil, List.length_cons, List.length_nil, Nat.reduceAdd, Nat.reduceSub, List.replicate_succ, List.replicate_zero, List.getElem?_cons_zero, List.getElem?_cons_succ, List.set_cons_zero, List.set_cons_succ, Option.some.injEq, exists_eq_left', exists_eq_left, exists_and_left, V.int.injEq, V.bl.injEq, V.ref.injEq, V.str.injEq, List.cons.injEq, and_true, true_and, List.nil_append, List.cons_append, List.append_nil, reduceCtorEq, false_and, exists_false, or_false, false_or, and_false, Int.reduceNeg, decide_eq_true_eq, Bool.not_eq_true', decide_eq_false_iff_not, and_assoc, tYes, ↓reduceIte, wipe, Bool.false_eq_true, Bool.true_eq_false, cxOf, false_implies, true_implies, implies_true, forall_const, e9, spDraw, sp_l_odd_people]
  refine ⟨q, hh, fun po H1 po1 po2 hh1 b1 => ?_⟩
  have ha1 := b1 _ _ ha nh
  refine ⟨_, rfl, (show 1 ≤ sizeLine by decide), fun l1 h1 => ⟨a, l1, _, _, rfl, rfl, (Same.new h1) _ _ ha1, upd_same, by rw [List.length_map]; exact Nat.le_of_lt (Nat.lt_of_le_of_lt (show _ ≤ 100 by show ns.length + 1 ≤ 100; omega) (by decide)), fun l2 h2 => ⟨_, rfl, l2, _, rfl, SqL.of upd_same, fun l3 h3 => ?_⟩⟩⟩
  have ec : cutV (ns.map V.int ++ [V.int 1]) none (some 12) = ((ns ++ [1]).take 12).map V.int := by
    have z := cut_to (ns ++ [1]) 12
    rw [List.map_append] at z
    exact z
  rw [ec]
  have ol : 0 < ((ns ++ [1]).take 12).length ∧ ((ns ++ [1]).take 12).length ≤ 12 := by
    rw [List.length_take, List.length_append]
    show 0 < min 12 (ns.length + 1) ∧ min 12 (ns.length + 1) ≤ 12
    omega
  have ob : ∀ n, n ∈ (ns ++ [1]).take 12 → 1 ≤ n ∧ n ≤ 1000000000 := fun n hn => by
    rcases List.mem_append.mp (List.mem_of_mem_take hn) with hn | hn
    · exact nb n hn
    · rw [List.mem_singleton.mp hn]
      exact ⟨by decide, by decide⟩
  generalize (ns ++ [1]).take 12 = os at ol ob
  have s4 := (Same.new (o := HO.lst [V.int 1]) h1).trans ((Same.new (o := HO.lst (ns.map V.int ++ [V.int 1])) h2).trans (Same.new (o := HO.lst (os.map V.int)) h3))
  have n3h := (hh1.same ((Same.new (o := HO.lst [V.int 1]) h1).trans (Same.new (o := HO.lst (ns.map V.int ++ [V.int 1])) h2))).off h3
  have n3q := handOffq (hh1.same ((Same.new (o := HO.lst [V.int 1]) h1).trans (Same.new (o := HO.lst (ns.map V.int ++ [V.int 1])) h2))) h3
  have n3a : l3 ≠ a := fun z => by
    have y := (Same.new (o := HO.lst (ns.map V.int ++ [V.int 1])) h2) _ _ ((Same.new (o := HO.lst [V.int 1]) h1) _ _ ha1)
    rw [← z, h3] at y
    cases y
  have f3 : H1 l3 = none := Same.free ((Same.new (o := HO.lst [V.int 1]) h1).trans (Same.new (o := HO.lst (ns.map V.int ++ [V.int 1])) h2)) h3
  have e3 : upd (upd (upd H1 l1 (HO.lst [V.int 1])) l2 (HO.lst (ns.map V.int ++ [V.int 1]))) l3 (HO.lst (os.map V.int)) l3 = some (HO.lst (os.map V.int)) := upd_same
  have hh4 := hh1.same s4
  have ha4 := s4 _ _ ha1
  have po4 := po1.same s4
  generalize upd (upd (upd H1 l1 (HO.lst [V.int 1])) l2 (HO.lst (ns.map V.int ++ [V.int 1]))) l3 (HO.lst (os.map V.int)) = H4 at s4 e3 hh4 ha4 po4 ⊢
  clear h1 h2 h3
  refine ⟨l3, rfl, _, .inl (SqL.of e3), q, hh4, by rw [List.length_map]; omega, by rw [List.length_map]; omega, fun d H5 d0 d1 hh5 b5 => ⟨⟨by decide, by decide, by decide⟩, by decide, fun t1 ht1 => ⟨by decide, fun pl hpl => ?_⟩⟩⟩
  rw [List.length_map] at d1
  obtain ⟨j, rfl⟩ := Int.eq_ofNat_of_zero_le d0
  have s6 := (Same.new (o := HO.tup [V.int 1]) ht1).trans (Same.new (o := HO.lst [V.int 0, V.int (-1), V.int (1000000000 + 1), V.non, V.bl true, V.str (Str.ofString "1"), V.ref t1]) hpl)
  have e5 := s6 _ _ (b5 _ _ e3 n3h)
  have ha6 := s6 _ _ (b5 _ _ ha4 nh)
  have hh6 := hh5.same s6
  have po6 := (plain_but hh5 b5 po4).same s6
  have t1h := hh5.off ht1
  have et := (Same.new (o := HO.lst [V.int 0, V.int (-1), V.int (1000000000 + 1), V.non, V.bl true, V.str (Str.ofString "1"), V.ref t1]) hpl) t1 _ (upd_same (H := H5) (o := HO.tup [V.int 1]))
  refine ⟨h, q, pl, _, rfl, hh6, upd_same, (show 0 < 7 by decide), (show 7 ≤ 1000 by decide), (hh5.same (Same.new ht1)).off hpl, fun y H7 hy hh7 b7 => ?_⟩
  have e7 := b7 _ _ e5 n3h
  have ha7 := b7 _ _ ha6 nh
  have po7 := plain_but hh7 b7 po6
  have et7 := b7 _ _ et t1h
  have t13 : t1 ≠ l3 := fun z => by
    have x := b5 _ _ e3 n3h
    rw [← z, ht1] at x
    cases x
  have hy' : Plain H7 y ∧ whole y 1 1000000000 = false ∧ y ≠ .ref l3 := by
    simp only [List.mem_cons, List.not_mem_nil, or_false] at hy
    rcases hy with rfl | rfl | rfl | rfl | rfl | rfl | rfl
    all_goals first
      | exact ⟨True.intro, by decide +kernel, fun z => nomatch z⟩
      | exact ⟨.inl ⟨_, et7⟩, rfl, fun z => t13 (by injection z)⟩
  refine ⟨l3, rfl, _, e7, j, ?_, by decide, fun du hdu => ?_⟩
  · unfold ixN
    rw [if_pos (by omega), if_pos (by rw [List.length_map]; omega)]
    simp
  have fin : ∀ (X : V) (i : Int) (u : Str) (du : Addr) (Hx : Hp), Told Hx X i u → Hx du = some (.tup [.str "pool", .int i, .str u]) → Plain Hx po → Hx a = some (.lst (ns.map V.int)) →
      sp_l_told K [X, V.int p] Hx (fun x H1 => rNeD K x (V.ref du) H1 fun x H' => ∃ k, x = V.bl k ∧ if k = true then Q (V.bl false) H' else sp_l_told K [X, po] H' (fun x H1 => rNeD K x (V.ref du) H1 fun x H' => ∃ k, x = V.bl k ∧ if k = true then Q (V.bl false) H' else
        sp_l_told K [V.ref a, po] H' (fun x H1 => 2 ≤ sizeLine ∧ ∀ p, H1 p = none → rEqD K x (V.ref p) (upd H1 p (HO.tup [V.str "people", V.int 0])) Q) E0) E0) E0 := by
    intro X i u du Hx t ed pp ea
    refine told_bad t True.intro fun Ha ra sa e1 => ne_trip e1 (sa _ _ ed) (shaped_trip i u t.wd) ⟨false, rfl, ?_⟩
    rw [if_neg (fun z => by cases z)]
    refine told_bad (t.same sa) (pp.same sa) fun Hb rb sb e2 => ne_trip e2 (sb _ _ (sa _ _ ed)) (shaped_trip i u t.wd) ⟨false, rfl, ?_⟩
    rw [if_neg (fun z => by cases z)]
    have eab := sb _ _ (sa _ _ ea)
    exact ⟨.ref a, po, rfl, row_arg (.inr eab), (pp.same sa).same sb, .inr (.inr ⟨a, ns, ⟨rfl, .inr eab, hl, nb⟩, po2, fun Hc rc sc _ e3 => ⟨by decide, fun v hv => eq_pair ((Same.new hv) _ _ e3) upd_same (by decide +kernel) (k _)⟩⟩)⟩
  have hh7c := (handPut (o := HO.lst ((os.map V.int).set j y)) hh7 n3h n3q).same (Same.new (o := HO.tup [V.str "pool", V.int (j : Int), V.str "coin"]) hdu)
  have sc := Same.new (o := HO.tup [V.str "pool", V.int (j : Int), V.str "coin"]) hdu
  have x3 := sc l3 _ (upd_same (H := H7) (o := HO.lst ((os.map V.int).set j y)))
  have xa := sc a (HO.lst (ns.map V.int)) (by rw [upd_ne (Ne.symm n3a)]; exact ha7)
  have xpo := (plain_upd (o := HO.lst ((os.map V.int).set j y)) po7 (plain_off po1 f3)).same sc
  have xy := (plain_upd (o := HO.lst ((os.map V.int).set j y)) hy'.1 hy'.2.2).same sc
  have ndu : du ≠ h := (handPut (o := HO.lst ((os.map V.int).set j y)) hh7 n3h n3q).off hdu
  have xdu : upd (upd H7 l3 (HO.lst ((os.map V.int).set j y))) du (HO.tup [V.str "pool", V.int (j : Int), V.str "coin"]) du = some (HO.tup [V.str "pool", V.int (j : Int), V.str "coin"]) := upd_same
  generalize upd (upd H7 l3 (HO.lst ((os.map V.int).set j y))) du (HO.tup [V.str "pool", V.int (j : Int), V.str "coin"]) = Hc at hh7c sc x3 xa xpo xy xdu ⊢
  refine ⟨q, hh7c, by decide, by decide, fun d2 H8 d20 d21 hh8 b8 => ⟨rfl, ?_⟩⟩
  have z3 := b8 _ _ x3 n3h
  have za := b8 _ _ xa nh
  have zpo := plain_but hh8 b8 xpo
  have zy := plain_but hh8 b8 xy
  have zdu := b8 _ _ xdu ndu
  split
  · have r13 : ∀ x, x ∈ (List.replicate (Int.toNat 13) [V.int 1]).flatten → x = V.int 1 := fun x hx => by
      obtain ⟨l, hl, hx⟩ := List.mem_flatten.mp hx
      rw [List.eq_of_mem_replicate hl] at hx
      exact List.mem_singleton.mp hx
    have l13 : 12 < ((List.replicate (Int.toNat 13) [V.int 1]).flatten).length := by decide
    refine ⟨by decide, fun l5 h5 => ⟨l5, 13, [V.int 1], rfl, rfl, upd_same, by decide, by decide, (by show 1 * 13 ≤ sizeLine; decide), fun l6 h6 => ?_⟩⟩
    have sA := (Same.new (o := HO.lst [V.int 1]) h5).trans (Same.new (o := HO.lst (List.replicate (Int.toNat 13) [V.int 1]).flatten) h6)
    have e6 : upd (upd H8 l5 (HO.lst [V.int 1])) l6 (HO.lst (List.replicate (Int.toNat 13) [V.int 1]).flatten) l6 = some (HO.lst (List.replicate (Int.toNat 13) [V.int 1]).flatten) := upd_same
    have n6 := (hh8.same (Same.new (o := HO.lst [V.int 1]) h5)).off h6
    generalize upd (upd H8 l5 (HO.lst [V.int 1])) l6 (HO.lst (List.replicate (Int.toNat 13) [V.int 1]).flatten) = HA at sA e6 ⊢
    refine ⟨by decide, fun t5 ht5 => ⟨t5, 13, [V.int 1], rfl, rfl, SqT.of upd_same, by simp, by decide, by decide, by decide, fun t6 ht6 => ?_⟩⟩
    have sB := (Same.new (o := HO.tup [V.int 1]) ht5).trans (Same.new (o := HO.tup (List.replicate (Int.toNat 13) [V.int 1]).flatten) ht6)
    have eT : upd (upd HA t5 (HO.tup [V.int 1])) t6 (HO.tup (List.replicate (Int.toNat 13) [V.int 1]).flatten) t6 = some (HO.tup (List.replicate (Int.toNat 13) [V.int 1]).flatten) := upd_same
    have nT := ((hh8.same sA).same (Same.new (o := HO.tup [V.int 1]) ht5)).off ht6
    generalize upd (upd HA t5 (HO.tup [V.int 1])) t6 (HO.tup (List.replicate (Int.toNat 13) [V.int 1]).flatten) = HB at sB eT ⊢
    intro dd hdd
    have nD := ((hh8.same sA).same sB).off hdd
    refine ⟨by decide, fun pl2 hpl2 => ?_⟩
    have s1 := Same.new (o := HO.dK []) hdd
    have s2 := Same.new (o := HO.lst [V.non, V.int 3, V.str (Str.ofString "12"), V.ref l6, V.ref t6, V.ref dd]) hpl2
    have hhB := ((hh8.same sA).same sB)
    have hhC := (hhB.same s1).same s2
    have eD := s2 dd _ (upd_same (H := HB) (o := HO.dK []))
    have e6c := s2 _ _ (s1 _ _ (sB _ _ e6))
    have eTc := s2 _ _ (s1 _ _ eT)
    have zaC := s2 _ _ (s1 _ _ (sB _ _ (sA _ _ za)))
    have zpoC := (((zpo.same sA).same sB).same s1).same s2
    refine ⟨h, q, pl2, _, rfl, hhC, upd_same, (show 0 < 6 by decide), (show 6 ≤ 1000 by decide), (hhB.same s1).off hpl2, fun X H9 hX hh9 b9 => ⟨by decide, fun du2 hdu2 => ?_⟩⟩
    have s3 := Same.new (o := HO.tup [V.str "pool", V.int 0, V.str "many"]) hdu2
    have tX : Arg H9 X ∧ ¬ FewRow H9 X := by
      simp only [List.mem_cons, List.not_mem_nil, or_false] at hX
      rcases hX with rfl | rfl | rfl | rfl | rfl | rfl
      · exact arg_no True.intro fun a z => nomatch z
      · exact arg_no True.intro fun a z => nomatch z
      · exact arg_no True.intro fun a z => nomatch z
      · have r : Row H9 l6 (List.replicate (Int.toNat 13) [V.int 1]).flatten := .inr (b9 _ _ e6c n6)
        exact ⟨arg_row r fun x hx => by rw [r13 x hx]; exact True.intro, few_row r l13⟩
      · have r : Row H9 t6 (List.replicate (Int.toNat 13) [V.int 1]).flatten := .inl (b9 _ _ eTc nT)
        exact ⟨arg_row r fun x hx => by rw [r13 x hx]; exact True.intro, few_row r l13⟩
      · exact arg_dk (b9 _ _ eD nD)
    exact fin X 0 "many" du2 _ ((show Told H9 X 0 "many" from ⟨tX.1, .inl ⟨tX.2, rfl, rfl⟩⟩).same s3) upd_same ((plain_but hh9 b9 zpoC).same s3) (s3 _ _ (b9 _ _ zaC nh))
  · refine fin (.ref l3) j "coin" du H8 ⟨arg_row (.inr z3) fun x hx => ?_, .inr ⟨l3, _, j, y, ⟨rfl, .inr z3, by rw [List.length_set, List.length_map]; exact ol.2, fun m x hm hx => ?_, by rw [List.getElem?_set_self (by rw [List.length_map]; omega)], hy'.2.1⟩, rfl, rfl⟩⟩ zdu zpo za
    · rcases List.mem_or_eq_of_mem_set hx with hx | rfl
      · obtain ⟨n, _, rfl⟩ := List.mem_map.mp hx
        exact True.intro
      · exact zy
    · rw [List.getElem?_set_ne (Nat.ne_of_gt hm)] at hx
      obtain ⟨n, hn, rfl⟩ := nat_map hx
      have nb := ob n (List.mem_of_getElem? hn)
      exact whole_int nb.1 nb.2
def PoolAt (H : Hp) (h : Addr) (x : V) : Prop := ∃ (a : Addr) (ms : List Int), x = .ref a ∧ H a = some (.lst (ms.map V.int)) ∧ a ≠ h ∧ ms.length ≤ 12 ∧ ∀ m, m ∈ ms → 1 ≤ m ∧ m ≤ 1000000000
def sp_law (K : PySem.W.Frag) : Sp := fun vs H Q _ => ∃ (a : Addr) (ns : List Int), vs = [.ref a] ∧ SqL K H a (ns.map V.int) ∧ ns.length ≤ 63 ∧ ∀ H', Q (.bl true) H'
theorem len_law {vs H Q E} (h : sp_law K vs H Q E) : vs.length = 1 := by
  obtain ⟨_, _, rfl, _⟩ := h; rfl
theorem ok_law {f : Addr} {fd : FuncData} (F : Fun K "law" "law" s_law f fd) (T : Txt K mg cBadPool cBadPeople) : FnOk P w K mg base CX0 7 f fd ps_law (sp_law K) := by
  obtain ⟨f_l_hand, fd_l_hand, F_l_hand, m_l_hand, b_l_hand⟩ := T.d_l_hand
  have G_l_hand : FnOk P w K mg base CX0 1 f_l_hand fd_l_hand ps_l_hand (sp_l_hand K) := ok_l_hand F_l_hand T
  obtain ⟨f_l_draw, fd_l_draw, F_l_draw, m_l_draw, b_l_draw⟩ := T.d_l_draw
  have G_l_draw : FnOk P w K mg base CX0 2 f_l_draw fd_l_draw ps_l_draw (sp_l_draw K) := ok_l_draw F_l_draw T
  obtain ⟨f_l_small, fd_l_small, F_l_small, m_l_small, b_l_small⟩ := T.d_l_small
  have G_l_small : FnOk P w K mg base CX0 3 f_l_small fd_l_small ps_l_small (sp_l_small K) := ok_l_small F_l_small T
  obtain ⟨f_l_robbed, fd_l_robbed, F_l_robbed, m_l_robbed, b_l_robbed⟩ := T.d_l_robbed
  have G_l_robbed : FnOk P w K mg base CX0 3 f_l_robbed fd_l_robbed ps_l_robbed (sp_l_robbed K) := ok_l_robbed F_l_robbed T
  obtain ⟨f_l_far, fd_l_far, F_l_far, m_l_far, b_l_far⟩ := T.d_l_far
  have G_l_far : FnOk P w K mg base CX0 4 f_l_far fd_l_far ps_l_far (sp_l_far K) := ok_l_far F_l_far T
  obtain ⟨f_l_right, fd_l_right, F_l_right, m_l_right, b_l_right⟩ := T.d_l_right
  have G_l_right : FnOk P w K mg base CX0 5 f_l_right fd_l_right ps_l_right (sp_l_right K) := ok_l_right F_l_right T
  obtain ⟨f_l_refusals_right, fd_l_refusals_right, F_l_refusals_right, m_l_refusals_right, b_l_refusals_right⟩ := T.d_l_refusals_right
  have G_l_refusals_right : FnOk P w K mg base CX0 6 f_l_refusals_right fd_l_refusals_right ps_l_refusals_right (sp_l_refusals_right K) := ok_l_refusals_right F_l_refusals_right T
  obtain ⟨f_l_pool, fd_l_pool, F_l_pool, m_l_pool, b_l_pool⟩ := T.d_l_pool
  have G_l_pool : FnOk P w K mg base CX0 3 f_l_pool fd_l_pool ps_l_pool (sp_l_pool K) := ok_l_pool F_l_pool T
  obtain ⟨f_mending_coins, fd_mending_coins, F_mending_coins, m_mending_coins, b_mending_coins⟩ := T.d_mending_coins
  have G_mending_coins : FnOk P w K mg base (L2.CX P w) 4 f_mending_coins fd_mending_coins ps_mending_coins (sp_mending_coins K cBadPool cBadPeople) := ok_mending_coins F_mending_coins T
  obtain ⟨f_l_walk, fd_l_walk, F_l_walk, m_l_walk, b_l_walk⟩ := T.d_l_walk
  have G_l_walk : FnOk P w K mg base CX0 2 f_l_walk fd_l_walk ps_l_walk (sp_l_walk K) := ok_l_walk F_l_walk T
  refine F.ok (k := 6) sc_law (fun vs H Q E h => len_law h) (fun cdv A outer s H vs Q E hr h => ?_)
  refine ⟨_, (pss_cons (ps_set (i := 1) sc_law.nd rfl (Or.inl rfl) (pe_call G_l_hand (hr.mono (by decide)) (by rfl) m_l_hand F_l_hand.kp b_l_hand .nil pass0 (pa_cons (pv 0) pa_nil)))
      (pss_cons (ps_set (i := 2) sc_law.nd rfl (Or.inl rfl) (pe_op op_add pe_int (pe_call G_l_draw (hr.mono (by decide)) (by rfl) m_l_draw F_l_draw.kp b_l_draw .nil pass0 (pa_cons (pv 1) (pa_cons pe_int pa_nil)))))
      (pss_cons (ps_set (i := 3) sc_law.nd rfl (Or.inl rfl) (pe_lst (pa_cons (pe_call G_l_small (hr.mono (by decide)) (by rfl) m_l_small F_l_small.kp b_l_small .nil pass0 (pa_cons (pv 1) pa_nil)) (pa_cons (pe_call G_l_small (hr.mono (by decide)) (by rfl) m_l_small F_l_small.kp b_l_small .nil pass0 (pa_cons (pv 1) pa_nil)) (pa_cons (pe_call G_l_robbed (hr.mono (by decide)) (by rfl) m_l_robbed F_l_robbed.kp b_l_robbed .nil pass0 (pa_cons (pv 1) (pa_cons (pe_call G_l_pool (hr.mono (by decide)) (by rfl) m_l_pool F_l_pool.kp b_l_pool .nil pass0 (pa_cons (pv 1) (pa_cons (pv 2) (pa_cons pe_int pa_nil)))) pa_nil))) (pa_cons (pe_call G_l_far (hr.mono (by decide)) (by rfl) m_l_far F_l_far.kp b_l_far .nil pass0 (pa_cons (pv 1) pa_nil)) (pa_cons (pe_lst (pa_cons (pe_op op_pow pe_int pe_int) pa_nil)) pa_nil)))))))
      (pss_cons (ps_for PassesOwn.never rfl (pi_list (pv 3)) (pg_name (i := 4) sc_law.nd rfl (Or.inl rfl))
      (pss_cons (ps_set (i := 5) sc_law.nd rfl (Or.inl rfl) (pe_callTy call_list_of (by rfl) T.n_list (by decide +kernel) (pa_cons (pv 4) pa_nil)))
      (pss_one (ps_if (PW.pt (pw_or (pt_not (pt_val (pe_call G_l_right (hr.mono (by decide)) (by rfl) m_l_right F_l_right.kp b_l_right .nil pass0 (pa_cons (pv 4) (pa_cons (pv 2) pa_nil))))) (pw_or (pt_cmpR (op_neD hr.units) (pe_call G_mending_coins (hr.mono (by decide)) (by rfl) m_mending_coins F_mending_coins.kp b_mending_coins .nil passL (pa_cons (pe_callTy call_tuple_of (by rfl) T.n_tuple (by decide +kernel) (pa_cons (pv 4) pa_nil)) (pa_cons (pv 2) pa_nil))) (pe_call G_l_walk (hr.mono (by decide)) (by rfl) m_l_walk F_l_walk.kp b_l_walk .nil pass0 (pa_cons (pv 5) (pa_cons (pv 2) pa_nil))) (nomark _)) (pw_or1 (pt_cmpR (op_neD hr.units) (pv 4) (pv 5) (nomark _)))))) (pss_one (ps_ret pe_bl)) pss_nil))))
      (pss_one (ps_ret (pe_and (pe_call G_l_right (hr.mono (by decide)) (by rfl) m_l_right F_l_right.kp b_l_right .nil pass0 (pa_cons (pe_ix ix_list (pv 3) pe_int (fun _ _ => rfl)) (pa_cons pe_int pa_nil))) (pe_one (pe_call G_l_refusals_right (hr.mono (by decide)) (by rfl) m_l_refusals_right F_l_refusals_right.kp b_l_refusals_right .nil pass0 (pa_cons (pv 1) (pa_cons (pe_ix ix_list (pv 3) pe_int (fun _ _ => rfl)) (pa_cons (pv 2) pa_nil)))))))))))), ?_⟩
  obtain ⟨a, ns, rfl, hS, hn, k⟩ := h
  have e9 : (10 : Int) ^ Int.toNat 9 = 1000000000 := by decide
  simp only [tSeq, tAsg, tDrop, tRet, tRetN, tIfS, tNext, tTest, tB, tNot, tAnd, tOr, tChain, tIf, tAndV, tOrV, tNotV, tOp, tUn, tCB, tCons, tNil, tVar, tC, tCall, tCallS, gName, rI, rI0, rU, rEq, rNe, tTup, tLst, gSub, rSetL, rIxL, rIxT, L2.start, List.map_cons, List.map_nil, List.length_cons, List.length_nil, Nat.reduceAdd, Nat.reduceSub, List.replicate_succ, List.replicate_zero, List.getElem?_cons_zero, List.getElem?_cons_succ, List.set_cons_zero, List.set_cons_succ, Option.some.injEq, exists_eq_left', exists_eq_left, exists_and_left, V.int.injEq, V.bl.injEq, V.ref.injEq, V.str.injEq, List.cons.injEq, and_true, true_and, List.nil_append, List.cons_append, List.append_nil, reduceCtorEq, false_and, exists_false, or_false, false_or, and_false, Int.reduceNeg, decide_eq_true_eq, Bool.not_eq_true', decide_eq_false_iff_not, and_assoc, tYes, ↓reduceIte, wipe, Bool.false_eq_true, Bool.true_eq_false, cxOf, false_implies, true_implies, implies_true, forall_const, e9, spHand, spDraw, sp_l_small, sp_l_robbed, sp_l_pool, sp_l_far]
  refine ⟨ns, hS, hn, fun h q H1 s1 hh1 => ⟨q, hh1, by decide, by decide, fun d H2 d0 d1 hh2 b2 => ⟨q, hh2, ?_⟩⟩⟩
  intro H3 pA As hh3 b3 eA nA lA mA
  refine ⟨q, hh3, ?_⟩
  intro H4 pB Bs hh4 b4 eB nB lB mB
  refine ⟨q, hh4, by omega, by omega, ?_⟩
  intro H5 pC Cs hh5 b5 eC nC lC mC
  refine ⟨q, pC, rfl, hh5, Cs, eC, nC, lC, mC, ?_⟩
  intro H6 pD Ds hh6 b6 eD nD lD mD
  refine ⟨q, hh6, ?_⟩
  intro H7 pE Es hh7 b7 eE nE lE mE
  refine ⟨⟨by decide, by decide, by decide⟩, by decide, fun pT hpT => ⟨by decide, fun L hL => ?_⟩⟩
  have sT := (Same.new (o := HO.lst [V.int 1000000000]) hpT).trans (Same.new (o := HO.lst [V.ref pA, V.ref pB, V.ref pD, V.ref pE, V.ref pT]) hL)
  have eL : upd (upd H7 pT (HO.lst [V.int 1000000000])) L (HO.lst [V.ref pA, V.ref pB, V.ref pD, V.ref pE, V.ref pT]) L = some (HO.lst [V.ref pA, V.ref pB, V.ref pD, V.ref pE, V.ref pT]) := upd_same
  have eT := (Same.new (o := HO.lst [V.ref pA, V.ref pB, V.ref pD, V.ref pE, V.ref pT]) hL) pT _ (upd_same (H := H7) (o := HO.lst [V.int 1000000000]))
  have nT : pT ≠ h := hh7.off hpT
  have fA := sT _ _ (b7 _ _ (b6 _ _ (b5 _ _ (b4 _ _ eA nA) nA) nA) nA)
  have fB := sT _ _ (b7 _ _ (b6 _ _ (b5 _ _ eB nB) nB) nB)
  have fD := sT _ _ (b7 _ _ eD nD)
  have fE := sT _ _ eE
  have hhF := hh7.same sT
  generalize upd (upd H7 pT (HO.lst [V.int 1000000000])) L (HO.lst [V.ref pA, V.ref pB, V.ref pD, V.ref pE, V.ref pT]) = HF at eL eT fA fB fD fE hhF ⊢
  have pools : ∀ x, x ∈ [V.ref pA, V.ref pB, V.ref pD, V.ref pE, V.ref pT] → PoolAt HF h x := by
    intro x hx
    simp only [List.mem_cons, List.not_mem_nil, or_false] at hx
    rcases hx with rfl | rfl | rfl | rfl | rfl
    · exact ⟨pA, As, rfl, fA, nA, lA, mA⟩
    · exact ⟨pB, Bs, rfl, fB, nB, lB, mB⟩
    · exact ⟨pD, Ds, rfl, fD, nD, lD, mD⟩
    · exact ⟨pE, Es, rfl, fE, nE, lE, mE⟩
    · exact ⟨pT, [1000000000], rfl, eT, nT, by decide, fun m hm => by rw [List.mem_singleton.mp hm]; exact ⟨by decide, by decide⟩⟩
  refine ⟨_, rfl, L, rfl, ⟨_, SqL.of eL⟩, for_list (K := K) (a := L) (xs := [V.ref pA, V.ref pB, V.ref pD, V.ref pE, V.ref pT]) (fun i z h' => ∃ v u, z = [some (.ref a), some (.ref h), some (.int (2 + d)), some (.ref L), v, u] ∧ Same HF h') ⟨none, none, rfl, Same.refl HF⟩ (fun i z h' _ ⟨_, _, _, s⟩ => SqL.of (s _ _ eL)) ?_ ?_⟩
  · rintro i x z h' hi ⟨v, u, rfl, s⟩
    obtain ⟨a1, ms, rfl, e1, n1, l1, m1⟩ := pools x (List.mem_of_getElem? hi)
    have e1' := s _ _ e1
    simp only [tSeq, tAsg, tDrop, tRet, tRetN, tIfS, tNext, tTest, tB, tNot, tAnd, tOr, tChain, tIf, tAndV, tOrV, tNotV, tOp, tUn, tCB, tCons, tNil, tVar, tC, tCall, tCallS, gName, rI, rI0, rU, rEq, rNe, tTup, tLst, gSub, rSetL, rIxL, rIxT, L2.start, List.map_cons, List.map_nil, List.length_cons, List.length_nil, Nat.reduceAdd, Nat.reduceSub, List.replicate_succ, List.replicate_zero, List.getElem?_cons_zero, List.getElem?_cons_succ, List.set_cons_zero, List.set_cons_succ, Option.some.injEq, exists_eq_left', exists_eq_left, exists_and_left, V.int.injEq, V.bl.injEq, V.ref.injEq, V.str.injEq, List.cons.injEq, and_true, true_and, List.nil_append, List.cons_append, List.append_nil, reduceCtorEq, false_and, exists_false, or_false, false_or, and_false, Int.reduceNeg, decide_eq_true_eq, Bool.not_eq_true', decide_eq_false_iff_not, and_assoc, tYes, ↓reduceIte, wipe, Bool.false_eq_true, Bool.true_eq_false, cxOf, false_implies, true_implies, implies_true, forall_const]
    refine ⟨_, .inl (SqL.of e1'), fun kp hkp => ?_⟩
    have sk := Same.new (o := HO.lst (ms.map V.int)) hkp
    refine ⟨a1, ms, 2 + d, rfl, sk _ _ e1', l1, m1, by omega, by omega, fun H9 s9 => ⟨true, rfl, ?_⟩⟩
    rw [if_neg (fun z => by cases z)]
    have e9a := s9 _ _ (sk _ _ e1')
    have e9k := s9 kp _ (upd_same (H := h') (o := HO.lst (ms.map V.int)))
    have s09 := s.trans (sk.trans s9)
    refine ⟨_, .inl ⟨SqL.of e9a, fun tp htp => ?_⟩⟩
    have st := Same.new (o := HO.tup (ms.map V.int)) htp
    refine mend_call (ns := ms) (.inl upd_same) l1 m1 (by omega) (by omega) fun H10 b ks s10 eb p1 p2 => ?_
    refine ⟨kp, ms, 2 + d, rfl, .inr (s10 _ _ (st _ _ e9k)), l1, m1, by omega, by omega, fun H11 b2 ks2 s11 eb2 q1 q2 => ?_⟩
    rw [PySem.W.os_sorted_one (q1.trans p1.symm) q2 p2] at eb2
    refine ne_tupI (s11 _ _ eb) eb2 ⟨_, rfl, ?_⟩
    rw [decide_eq_true rfl, if_neg (fun z => by cases z)]
    have s911 := st.trans (s10.trans s11)
    refine ne_listI (SqL.of (s911 _ _ e9a)) (SqL.of (s911 _ _ e9k)) ⟨_, rfl, ?_⟩
    rw [decide_eq_true rfl, if_neg (fun z => by cases z)]
    exact s09.trans s911
  · rintro z h' ⟨v, u, rfl, s⟩
    simp only [tSeq, tAsg, tDrop, tRet, tRetN, tIfS, tNext, tTest, tB, tNot, tAnd, tOr, tChain, tIf, tAndV, tOrV, tNotV, tOp, tUn, tCB, tCons, tNil, tVar, tC, tCall, tCallS, gName, rI, rI0, rU, rEq, rNe, tTup, tLst, gSub, rSetL, rIxL, rIxT, L2.start, List.map_cons, List.map_nil, List.length_cons, List.length_nil, Nat.reduceAdd, Nat.reduceSub, List.replicate_succ, List.replicate_zero, List.getElem?_cons_zero, List.getElem?_cons_succ, List.set_cons_zero, List.set_cons_succ, Option.some.injEq, exists_eq_left', exists_eq_left, exists_and_left, V.int.injEq, V.bl.injEq, V.ref.injEq, V.str.injEq, List.cons.injEq, and_true, true_and, List.nil_append, List.cons_append, List.append_nil, reduceCtorEq, false_and, exists_false, or_false, false_or, and_false, Int.reduceNeg, decide_eq_true_eq, Bool.not_eq_true', decide_eq_false_iff_not, and_assoc, tYes, ↓reduceIte, wipe, Bool.false_eq_true, Bool.true_eq_false, cxOf, false_implies, true_implies, implies_true, forall_const]
    refine ⟨_, SqL.of (s _ _ eL), _, atI_nat (j := 0) rfl, pA, As, 2, rfl, s _ _ fA, lA, mA, by decide, by decide, fun H9 s9 => ⟨true, rfl, ?_⟩⟩
    rw [if_pos rfl]
    exact ⟨_, SqL.of (s9 _ _ (s _ _ eL)), _, atI_nat (j := 3) rfl, h, q, pE, Es, 2 + d, rfl, (hhF.same s).same s9, s9 _ _ (s _ _ fE), nE, lE, mE, by omega, by omega, fun H' => k H'⟩
end
end My
set_option Elab.async false
set_option linter.all false
set_option maxRecDepth 100000
set_option maxHeartbeats 8000000
namespace My
open PySem PySem.Spec PyProof.Rows L2 Gen
theorem all_mk {l : PySem.W.OpenLaw} {w : World} {K : PySem.W.Frag} {h : Heap} {mg : Str → Option Value} {fa : Addr}
    {cBadPool cBadPeople : Addr}
    {a1 : Addr} {od1 an1 : Option Addr} {sl1 : Array (Option Value)} {oc1 kV1 dc1 pm1 cd1 ct1 : Value}
    {a2 : Addr} {od2 an2 : Option Addr} {sl2 : Array (Option Value)} {oc2 kV2 dc2 pm2 cd2 ct2 : Value}
    {a3 : Addr} {od3 an3 : Option Addr} {sl3 : Array (Option Value)} {oc3 kV3 dc3 pm3 cd3 ct3 : Value}
    {a4 : Addr} {od4 an4 : Option Addr} {sl4 : Array (Option Value)} {oc4 kV4 dc4 pm4 cd4 ct4 : Value}
    {a5 : Addr} {od5 an5 : Option Addr} {sl5 : Array (Option Value)} {oc5 kV5 dc5 pm5 cd5 ct5 : Value}
    {a6 : Addr} {od6 an6 : Option Addr} {sl6 : Array (Option Value)} {oc6 kV6 dc6 pm6 cd6 ct6 : Value}
    {dT6 : Addr} {dd6 : Option Addr} {dn6 : Nat} {dsl6 : Array (Option Value)} {dt6_0 : Tok}
    {a7 : Addr} {od7 an7 : Option Addr} {sl7 : Array (Option Value)} {oc7 kV7 dc7 pm7 cd7 ct7 : Value}
    {a8 : Addr} {od8 an8 : Option Addr} {sl8 : Array (Option Value)} {oc8 kV8 dc8 pm8 cd8 ct8 : Value}
    {a9 : Addr} {od9 an9 : Option Addr} {sl9 : Array (Option Value)} {oc9 kV9 dc9 pm9 cd9 ct9 : Value}
    {a10 : Addr} {od10 an10 : Option Addr} {sl10 : Array (Option Value)} {oc10 kV10 dc10 pm10 cd10 ct10 : Value}
    {a11 : Addr} {od11 an11 : Option Addr} {sl11 : Array (Option Value)} {oc11 kV11 dc11 pm11 cd11 ct11 : Value}
    {a12 : Addr} {od12 an12 : Option Addr} {sl12 : Array (Option Value)} {oc12 kV12 dc12 pm12 cd12 ct12 : Value}
    {a13 : Addr} {od13 an13 : Option Addr} {sl13 : Array (Option Value)} {oc13 kV13 dc13 pm13 cd13 ct13 : Value}
    {a14 : Addr} {od14 an14 : Option Addr} {sl14 : Array (Option Value)} {oc14 kV14 dc14 pm14 cd14 ct14 : Value}
    {a15 : Addr} {od15 an15 : Option Addr} {sl15 : Array (Option Value)} {oc15 kV15 dc15 pm15 cd15 ct15 : Value}
    {a16 : Addr} {od16 an16 : Option Addr} {sl16 : Array (Option Value)} {oc16 kV16 dc16 pm16 cd16 ct16 : Value}
    {a17 : Addr} {od17 an17 : Option Addr} {sl17 : Array (Option Value)} {oc17 kV17 dc17 pm17 cd17 ct17 : Value}
    {a18 : Addr} {od18 an18 : Option Addr} {sl18 : Array (Option Value)} {oc18 kV18 dc18 pm18 cd18 ct18 : Value}
    {a19 : Addr} {od19 an19 : Option Addr} {sl19 : Array (Option Value)} {oc19 kV19 dc19 pm19 cd19 ct19 : Value}
    {a20 : Addr} {od20 an20 : Option Addr} {sl20 : Array (Option Value)} {oc20 kV20 dc20 pm20 cd20 ct20 : Value}
    {a21 : Addr} {od21 an21 : Option Addr} {sl21 : Array (Option Value)} {oc21 kV21 dc21 pm21 cd21 ct21 : Value}
    {a22 : Addr} {od22 an22 : Option Addr} {sl22 : Array (Option Value)} {oc22 kV22 dc22 pm22 cd22 ct22 : Value}
    {a23 : Addr} {od23 an23 : Option Addr} {sl23 : Array (Option Value)} {oc23 kV23 dc23 pm23 cd23 ct23 : Value}
    {a24 : Addr} {od24 an24 : Option Addr} {sl24 : Array (Option Value)} {oc24 kV24 dc24 pm24 cd24 ct24 : Value}
    {a25 : Addr} {od25 an25 : Option Addr} {sl25 : Array (Option Value)} {oc25 kV25 dc25 pm25 cd25 ct25 : Value}
    {a26 : Addr} {od26 an26 : Option Addr} {sl26 : Array (Option Value)} {oc26 kV26 dc26 pm26 cd26 ct26 : Value}
    {a27 : Addr} {od27 an27 : Option Addr} {sl27 : Array (Option Value)} {oc27 kV27 dc27 pm27 cd27 ct27 : Value}
    {a28 : Addr} {od28 an28 : Option Addr} {sl28 : Array (Option Value)} {oc28 kV28 dc28 pm28 cd28 ct28 : Value}
    {a29 : Addr} {od29 an29 : Option Addr} {sl29 : Array (Option Value)} {oc29 kV29 dc29 pm29 cd29 ct29 : Value}
    {tk_MOST_COINS : Tok}
    {tk_GREATEST_COIN : Tok}
    {tk_MOST_PEOPLE : Tok}
    {tk_LEAST_PEOPLE : Tok}
    {nm_BadPool q_BadPool : Str} {N_BadPool B_BadPool : Addr} {bs_BadPool : List Value} {sn_BadPool : List Str} {sub_BadPool : List Value} {ab_BadPool : Bool} {col_BadPool : Option Bool} {dd_BadPool : Option Addr} {m0_BadPool m1_BadPool m2_BadPool m3_BadPool m5_BadPool : Option Value} (X : K.In h) (G : h.Ns mainGlobals mg) (hfa : mg "law" = some (.ref fa))
    (g_BadPool : PySem.W.nsIn K mainGlobals "BadPool" = some (some (.ref cBadPool)))
    (g_BadPeople : PySem.W.nsIn K mainGlobals "BadPeople" = some (some (.ref cBadPeople)))
    (a_i_BadPool : PySem.W.findIn K (.ref cBadPool) "__init__" = some (some (.ref a1)))
    (l_i_BadPool : K.lookup a1 = some ⟨oc1, od1, .func (PySem.W.fnOf "__init__" "BadPool.__init__" (defArgs s_i_BadPool) (defBody s_i_BadPool) (defScope s_i_BadPool) .none kV1 dc1 pm1 an1 cd1 ct1), sl1⟩)
    (c_i_BadPool : PySem.W.codeIn K cd1 "BadPool.__init__" = true)
    (k_i_BadPool : PySem.W.keepIn K (.ref a1) = true)
    (t_i_BadPool : PySem.W.typeIn K (.ref a1) = some (.type "function"))
    (a_is_number : PySem.W.nsIn K mainGlobals "is_number" = some (some (.ref a2)))
    (l_is_number : K.lookup a2 = some ⟨oc2, od2, .func (PySem.W.fnOf "is_number" "is_number" (defArgs s_is_number) (defBody s_is_number) (defScope s_is_number) .none kV2 dc2 pm2 an2 cd2 ct2), sl2⟩)
    (c_is_number : PySem.W.codeIn K cd2 "is_number" = true)
    (k_is_number : PySem.W.keepIn K (.ref a2) = true)
    (a_is_whole : PySem.W.nsIn K mainGlobals "is_whole" = some (some (.ref a3)))
    (l_is_whole : K.lookup a3 = some ⟨oc3, od3, .func (PySem.W.fnOf "is_whole" "is_whole" (defArgs s_is_whole) (defBody s_is_whole) (defScope s_is_whole) .none kV3 dc3 pm3 an3 cd3 ct3), sl3⟩)
    (c_is_whole : PySem.W.codeIn K cd3 "is_whole" = true)
    (k_is_whole : PySem.W.keepIn K (.ref a3) = true)
    (a_is_row : PySem.W.nsIn K mainGlobals "is_row" = some (some (.ref a4)))
    (l_is_row : K.lookup a4 = some ⟨oc4, od4, .func (PySem.W.fnOf "is_row" "is_row" (defArgs s_is_row) (defBody s_is_row) (defScope s_is_row) .none kV4 dc4 pm4 an4 cd4 ct4), sl4⟩)
    (c_is_row : PySem.W.codeIn K cd4 "is_row" = true)
    (k_is_row : PySem.W.keepIn K (.ref a4) = true)
    (a_check_pool : PySem.W.nsIn K mainGlobals "check_pool" = some (some (.ref a5)))
    (l_check_pool : K.lookup a5 = some ⟨oc5, od5, .func (PySem.W.fnOf "check_pool" "check_pool" (defArgs s_check_pool) (defBody s_check_pool) (defScope s_check_pool) .none kV5 dc5 pm5 an5 cd5 ct5), sl5⟩)
    (c_check_pool : PySem.W.codeIn K cd5 "check_pool" = true)
    (k_check_pool : PySem.W.keepIn K (.ref a5) = true)
    (a_check_people : PySem.W.nsIn K mainGlobals "check_people" = some (some (.ref a6)))
    (l_check_people : K.lookup a6 = some ⟨oc6, od6, .func (PySem.W.fnOf "check_people" "check_people" (defArgs s_check_people) (defBody s_check_people) (defScope s_check_people) (.ref dT6) kV6 dc6 pm6 an6 cd6 ct6), sl6⟩)
    (t_check_people : K.lookup dT6 = some ⟨.type "tuple", dd6, .seq #[.int 1 dt6_0] dn6, dsl6⟩)
    (c_check_people : PySem.W.codeIn K cd6 "check_people" = true)
    (k_check_people : PySem.W.keepIn K (.ref a6) = true)
    (a_room_at : PySem.W.nsIn K mainGlobals "room_at" = some (some (.ref a7)))
    (l_room_at : K.lookup a7 = some ⟨oc7, od7, .func (PySem.W.fnOf "room_at" "room_at" (defArgs s_room_at) (defBody s_room_at) (defScope s_room_at) .none kV7 dc7 pm7 an7 cd7 ct7), sl7⟩)
    (c_room_at : PySem.W.codeIn K cd7 "room_at" = true)
    (k_room_at : PySem.W.keepIn K (.ref a7) = true)
    (a_mending_coins : PySem.W.nsIn K mainGlobals "mending_coins" = some (some (.ref a8)))
    (l_mending_coins : K.lookup a8 = some ⟨oc8, od8, .func (PySem.W.fnOf "mending_coins" "mending_coins" (defArgs s_mending_coins) (defBody s_mending_coins) (defScope s_mending_coins) .none kV8 dc8 pm8 an8 cd8 ct8), sl8⟩)
    (c_mending_coins : PySem.W.codeIn K cd8 "mending_coins" = true)
    (k_mending_coins : PySem.W.keepIn K (.ref a8) = true)
    (a_l_mix : PySem.W.nsIn K mainGlobals "_law_mix" = some (some (.ref a9)))
    (l_l_mix : K.lookup a9 = some ⟨oc9, od9, .func (PySem.W.fnOf "_law_mix" "_law_mix" (defArgs s_l_mix) (defBody s_l_mix) (defScope s_l_mix) .none kV9 dc9 pm9 an9 cd9 ct9), sl9⟩)
    (c_l_mix : PySem.W.codeIn K cd9 "_law_mix" = true)
    (k_l_mix : PySem.W.keepIn K (.ref a9) = true)
    (a_l_hand : PySem.W.nsIn K mainGlobals "_law_hand" = some (some (.ref a10)))
    (l_l_hand : K.lookup a10 = some ⟨oc10, od10, .func (PySem.W.fnOf "_law_hand" "_law_hand" (defArgs s_l_hand) (defBody s_l_hand) (defScope s_l_hand) .none kV10 dc10 pm10 an10 cd10 ct10), sl10⟩)
    (c_l_hand : PySem.W.codeIn K cd10 "_law_hand" = true)
    (k_l_hand : PySem.W.keepIn K (.ref a10) = true)
    (a_l_draw : PySem.W.nsIn K mainGlobals "_law_draw" = some (some (.ref a11)))
    (l_l_draw : K.lookup a11 = some ⟨oc11, od11, .func (PySem.W.fnOf "_law_draw" "_law_draw" (defArgs s_l_draw) (defBody s_l_draw) (defScope s_l_draw) .none kV11 dc11 pm11 an11 cd11 ct11), sl11⟩)
    (c_l_draw : PySem.W.codeIn K cd11 "_law_draw" = true)
    (k_l_draw : PySem.W.keepIn K (.ref a11) = true)
    (a_l_pick : PySem.W.nsIn K mainGlobals "_law_pick" = some (some (.ref a12)))
    (l_l_pick : K.lookup a12 = some ⟨oc12, od12, .func (PySem.W.fnOf "_law_pick" "_law_pick" (defArgs s_l_pick) (defBody s_l_pick) (defScope s_l_pick) .none kV12 dc12 pm12 an12 cd12 ct12), sl12⟩)
    (c_l_pick : PySem.W.codeIn K cd12 "_law_pick" = true)
    (k_l_pick : PySem.W.keepIn K (.ref a12) = true)
    (a_l_is_whole : PySem.W.nsIn K mainGlobals "_law_is_whole" = some (some (.ref a13)))
    (l_l_is_whole : K.lookup a13 = some ⟨oc13, od13, .func (PySem.W.fnOf "_law_is_whole" "_law_is_whole" (defArgs s_l_is_whole) (defBody s_l_is_whole) (defScope s_l_is_whole) .none kV13 dc13 pm13 an13 cd13 ct13), sl13⟩)
    (c_l_is_whole : PySem.W.codeIn K cd13 "_law_is_whole" = true)
    (k_l_is_whole : PySem.W.keepIn K (.ref a13) = true)
    (a_l_is_coins : PySem.W.nsIn K mainGlobals "_law_is_coins" = some (some (.ref a14)))
    (l_l_is_coins : K.lookup a14 = some ⟨oc14, od14, .func (PySem.W.fnOf "_law_is_coins" "_law_is_coins" (defArgs s_l_is_coins) (defBody s_l_is_coins) (defScope s_l_is_coins) .none kV14 dc14 pm14 an14 cd14 ct14), sl14⟩)
    (c_l_is_coins : PySem.W.codeIn K cd14 "_law_is_coins" = true)
    (k_l_is_coins : PySem.W.keepIn K (.ref a14) = true)
    (a_l_up : PySem.W.nsIn K mainGlobals "_law_up" = some (some (.ref a15)))
    (l_l_up : K.lookup a15 = some ⟨oc15, od15, .func (PySem.W.fnOf "_law_up" "_law_up" (defArgs s_l_up) (defBody s_l_up) (defScope s_l_up) .none kV15 dc15 pm15 an15 cd15 ct15), sl15⟩)
    (c_l_up : PySem.W.codeIn K cd15 "_law_up" = true)
    (k_l_up : PySem.W.keepIn K (.ref a15) = true)
    (a_l_serves : PySem.W.nsIn K mainGlobals "_law_serves" = some (some (.ref a16)))
    (l_l_serves : K.lookup a16 = some ⟨oc16, od16, .func (PySem.W.fnOf "_law_serves" "_law_serves" (defArgs s_l_serves) (defBody s_l_serves) (defScope s_l_serves) .none kV16 dc16 pm16 an16 cd16 ct16), sl16⟩)
    (c_l_serves : PySem.W.codeIn K cd16 "_law_serves" = true)
    (k_l_serves : PySem.W.keepIn K (.ref a16) = true)
    (a_l_next : PySem.W.nsIn K mainGlobals "_law_next" = some (some (.ref a17)))
    (l_l_next : K.lookup a17 = some ⟨oc17, od17, .func (PySem.W.fnOf "_law_next" "_law_next" (defArgs s_l_next) (defBody s_l_next) (defScope s_l_next) .none kV17 dc17 pm17 an17 cd17 ct17), sl17⟩)
    (c_l_next : PySem.W.codeIn K cd17 "_law_next" = true)
    (k_l_next : PySem.W.keepIn K (.ref a17) = true)
    (a_l_odd_people : PySem.W.nsIn K mainGlobals "_law_odd_people" = some (some (.ref a18)))
    (l_l_odd_people : K.lookup a18 = some ⟨oc18, od18, .func (PySem.W.fnOf "_law_odd_people" "_law_odd_people" (defArgs s_l_odd_people) (defBody s_l_odd_people) (defScope s_l_odd_people) .none kV18 dc18 pm18 an18 cd18 ct18), sl18⟩)
    (c_l_odd_people : PySem.W.codeIn K cd18 "_law_odd_people" = true)
    (k_l_odd_people : PySem.W.keepIn K (.ref a18) = true)
    (a_l_pool : PySem.W.nsIn K mainGlobals "_law_pool" = some (some (.ref a19)))
    (l_l_pool : K.lookup a19 = some ⟨oc19, od19, .func (PySem.W.fnOf "_law_pool" "_law_pool" (defArgs s_l_pool) (defBody s_l_pool) (defScope s_l_pool) .none kV19 dc19 pm19 an19 cd19 ct19), sl19⟩)
    (c_l_pool : PySem.W.codeIn K cd19 "_law_pool" = true)
    (k_l_pool : PySem.W.keepIn K (.ref a19) = true)
    (a_l_robbed : PySem.W.nsIn K mainGlobals "_law_robbed" = some (some (.ref a20)))
    (l_l_robbed : K.lookup a20 = some ⟨oc20, od20, .func (PySem.W.fnOf "_law_robbed" "_law_robbed" (defArgs s_l_robbed) (defBody s_l_robbed) (defScope s_l_robbed) .none kV20 dc20 pm20 an20 cd20 ct20), sl20⟩)
    (c_l_robbed : PySem.W.codeIn K cd20 "_law_robbed" = true)
    (k_l_robbed : PySem.W.keepIn K (.ref a20) = true)
    (a_l_walk : PySem.W.nsIn K mainGlobals "_law_walk" = some (some (.ref a21)))
    (l_l_walk : K.lookup a21 = some ⟨oc21, od21, .func (PySem.W.fnOf "_law_walk" "_law_walk" (defArgs s_l_walk) (defBody s_l_walk) (defScope s_l_walk) .none kV21 dc21 pm21 an21 cd21 ct21), sl21⟩)
    (c_l_walk : PySem.W.codeIn K cd21 "_law_walk" = true)
    (k_l_walk : PySem.W.keepIn K (.ref a21) = true)
    (a_l_many_lots : PySem.W.nsIn K mainGlobals "_law_many_lots" = some (some (.ref a22)))
    (l_l_many_lots : K.lookup a22 = some ⟨oc22, od22, .func (PySem.W.fnOf "_law_many_lots" "_law_many_lots" (defArgs s_l_many_lots) (defBody s_l_many_lots) (defScope s_l_many_lots) .none kV22 dc22 pm22 an22 cd22 ct22), sl22⟩)
    (c_l_many_lots : PySem.W.codeIn K cd22 "_law_many_lots" = true)
    (k_l_many_lots : PySem.W.keepIn K (.ref a22) = true)
    (a_l_lots : PySem.W.nsIn K mainGlobals "_law_lots" = some (some (.ref a23)))
    (l_l_lots : K.lookup a23 = some ⟨oc23, od23, .func (PySem.W.fnOf "_law_lots" "_law_lots" (defArgs s_l_lots) (defBody s_l_lots) (defScope s_l_lots) .none kV23 dc23 pm23 an23 cd23 ct23), sl23⟩)
    (c_l_lots : PySem.W.codeIn K cd23 "_law_lots" = true)
    (k_l_lots : PySem.W.keepIn K (.ref a23) = true)
    (a_l_right : PySem.W.nsIn K mainGlobals "_law_right" = some (some (.ref a24)))
    (l_l_right : K.lookup a24 = some ⟨oc24, od24, .func (PySem.W.fnOf "_law_right" "_law_right" (defArgs s_l_right) (defBody s_l_right) (defScope s_l_right) .none kV24 dc24 pm24 an24 cd24 ct24), sl24⟩)
    (c_l_right : PySem.W.codeIn K cd24 "_law_right" = true)
    (k_l_right : PySem.W.keepIn K (.ref a24) = true)
    (a_l_small : PySem.W.nsIn K mainGlobals "_law_small" = some (some (.ref a25)))
    (l_l_small : K.lookup a25 = some ⟨oc25, od25, .func (PySem.W.fnOf "_law_small" "_law_small" (defArgs s_l_small) (defBody s_l_small) (defScope s_l_small) .none kV25 dc25 pm25 an25 cd25 ct25), sl25⟩)
    (c_l_small : PySem.W.codeIn K cd25 "_law_small" = true)
    (k_l_small : PySem.W.keepIn K (.ref a25) = true)
    (a_l_far : PySem.W.nsIn K mainGlobals "_law_far" = some (some (.ref a26)))
    (l_l_far : K.lookup a26 = some ⟨oc26, od26, .func (PySem.W.fnOf "_law_far" "_law_far" (defArgs s_l_far) (defBody s_l_far) (defScope s_l_far) .none kV26 dc26 pm26 an26 cd26 ct26), sl26⟩)
    (c_l_far : PySem.W.codeIn K cd26 "_law_far" = true)
    (k_l_far : PySem.W.keepIn K (.ref a26) = true)
    (a_l_told : PySem.W.nsIn K mainGlobals "_law_told" = some (some (.ref a27)))
    (l_l_told : K.lookup a27 = some ⟨oc27, od27, .func (PySem.W.fnOf "_law_told" "_law_told" (defArgs s_l_told) (defBody s_l_told) (defScope s_l_told) .none kV27 dc27 pm27 an27 cd27 ct27), sl27⟩)
    (c_l_told : PySem.W.codeIn K cd27 "_law_told" = true)
    (k_l_told : PySem.W.keepIn K (.ref a27) = true)
    (a_l_refusals_right : PySem.W.nsIn K mainGlobals "_law_refusals_right" = some (some (.ref a28)))
    (l_l_refusals_right : K.lookup a28 = some ⟨oc28, od28, .func (PySem.W.fnOf "_law_refusals_right" "_law_refusals_right" (defArgs s_l_refusals_right) (defBody s_l_refusals_right) (defScope s_l_refusals_right) .none kV28 dc28 pm28 an28 cd28 ct28), sl28⟩)
    (c_l_refusals_right : PySem.W.codeIn K cd28 "_law_refusals_right" = true)
    (k_l_refusals_right : PySem.W.keepIn K (.ref a28) = true)
    (a_law : PySem.W.nsIn K mainGlobals "law" = some (some (.ref a29)))
    (l_law : K.lookup a29 = some ⟨oc29, od29, .func (PySem.W.fnOf "law" "law" (defArgs s_law) (defBody s_law) (defScope s_law) .none kV29 dc29 pm29 an29 cd29 ct29), sl29⟩)
    (c_law : PySem.W.codeIn K cd29 "law" = true)
    (k_law : PySem.W.keepIn K (.ref a29) = true)
    (v_MOST_COINS : PySem.W.nsIn K mainGlobals "MOST_COINS" = some (some (.int 12 tk_MOST_COINS)))
    (v_GREATEST_COIN : PySem.W.nsIn K mainGlobals "GREATEST_COIN" = some (some (.int 1000000000 tk_GREATEST_COIN)))
    (v_MOST_PEOPLE : PySem.W.nsIn K mainGlobals "MOST_PEOPLE" = some (some (.int 5 tk_MOST_PEOPLE)))
    (v_LEAST_PEOPLE : PySem.W.nsIn K mainGlobals "LEAST_PEOPLE" = some (some (.int 2 tk_LEAST_PEOPLE)))
    (n_isinstance : PySem.W.nsIn K mainGlobals "isinstance" = some none)
    (n_int : PySem.W.nsIn K mainGlobals "int" = some none)
    (n_bool : PySem.W.nsIn K mainGlobals "bool" = some none)
    (n_list : PySem.W.nsIn K mainGlobals "list" = some none)
    (n_tuple : PySem.W.nsIn K mainGlobals "tuple" = some none)
    (n_len : PySem.W.nsIn K mainGlobals "len" = some none)
    (n_enumerate : PySem.W.nsIn K mainGlobals "enumerate" = some none)
    (n_sorted : PySem.W.nsIn K mainGlobals "sorted" = some none)
    (n_abs : PySem.W.nsIn K mainGlobals "abs" = some none)
    (n_range : PySem.W.nsIn K mainGlobals "range" = some none)
    (n_sum : PySem.W.nsIn K mainGlobals "sum" = some none)
    (n_max : PySem.W.nsIn K mainGlobals "max" = some none)
    (k_BadPool : PySem.W.keepIn K (.ref cBadPool) = true)
    (e_BadPool : PySem.W.subIn K (.ref cBadPool) (.type "BaseException") = some true)
    (t_BadPool : PySem.W.typeIn K (.ref cBadPool) = some (.type "type"))
    (i_BadPool : PySem.W.isClsIn K cBadPool = true)
    (x_BadPool : K.lookup cBadPool = some (excClassObj nm_BadPool q_BadPool cBadPool N_BadPool bs_BadPool [.ref B_BadPool, .type "ValueError", .type "Exception", .type "BaseException", .type "object"] true sn_BadPool sub_BadPool ab_BadPool col_BadPool dd_BadPool m0_BadPool m1_BadPool m2_BadPool m3_BadPool m5_BadPool "ValueError.__new__"))
    (s_BadPool : PySem.W.findIn K (.ref cBadPool) "__setattr__" = some (some (.builtin "object.__setattr__")))
    (ga_BadPool : PySem.W.findIn K (.ref cBadPool) "__getattribute__" = some (some (.builtin "BaseException.__getattribute__")))
    (gg_BadPool : PySem.W.findIn K (.ref cBadPool) "__getattr__" = some none)
    (hd_BadPool : PySem.W.hasDictIn K cBadPool = true)
    (f_BadPool_place : PySem.W.findIn K (.ref cBadPool) "place" = some none)
    (f_BadPool_what : PySem.W.findIn K (.ref cBadPool) "what" = some none)
    (k_BadPeople : PySem.W.keepIn K (.ref cBadPeople) = true)
    (e_BadPeople : PySem.W.subIn K (.ref cBadPeople) (.type "BaseException") = some true)
    (t_BadPeople : PySem.W.typeIn K (.ref cBadPeople) = some (.type "type"))
    (i_BadPeople : PySem.W.isClsIn K cBadPeople = true)
    (x_BadPeople : PySem.W.excIn K cBadPeople [.type "ValueError", .type "Exception", .type "BaseException", .type "object"] "ValueError.__new__" = true)
    (m_BadPool_BadPool : PySem.W.subIn K (.ref cBadPool) (.ref cBadPool) = some true)
    (m_BadPool_BadPeople : PySem.W.subIn K (.ref cBadPool) (.ref cBadPeople) = some false)
    (m_BadPeople_BadPool : PySem.W.subIn K (.ref cBadPeople) (.ref cBadPool) = some false)
    (m_BadPeople_BadPeople : PySem.W.subIn K (.ref cBadPeople) (.ref cBadPeople) = some true) :
    ∃ fd : FuncData, (∀ (s : Shared) (v : Value), BindsTo s fd ⟨[v], []⟩ [("_law_script", v)]) ∧ ∀ base : Heap, K.In base → base.Ns mainGlobals mg → FnOk l.prog w K mg base CX0 7 fa fd ["_law_script"] (sp_law K) := by
  have e := hfa.symm.trans (PySem.W.mg_of X G a_law)
  cases e
  have F1 := fun_mk (st := s_i_BadPool) l_i_BadPool c_i_BadPool k_i_BadPool
  have b1 := F1.binds (ps := ps_i_BadPool) fun _ _ _ _ _ _ us hl => match us, hl with | [_, _, _], _ => rfl
  have F2 := fun_mk (st := s_is_number) l_is_number c_is_number k_is_number
  have b2 := F2.binds (ps := ps_is_number) fun _ _ _ _ _ _ us hl => match us, hl with | [_], _ => rfl
  have F3 := fun_mk (st := s_is_whole) l_is_whole c_is_whole k_is_whole
  have b3 := F3.binds (ps := ps_is_whole) fun _ _ _ _ _ _ us hl => match us, hl with | [_, _, _], _ => rfl
  have F4 := fun_mk (st := s_is_row) l_is_row c_is_row k_is_row
  have b4 := F4.binds (ps := ps_is_row) fun _ _ _ _ _ _ us hl => match us, hl with | [_, _, _], _ => rfl
  have F5 := fun_mk (st := s_check_pool) l_check_pool c_check_pool k_check_pool
  have b5 := F5.binds (ps := ps_check_pool) fun _ _ _ _ _ _ us hl => match us, hl with | [_], _ => rfl
  have F6 : FunD K "check_people" "check_people" (defArgs s_check_people) (defBody s_check_people) (defScope s_check_people) [(V.int 1)] [] a6 _ := ⟨⟨_, _, _, _, _, _, _, _, _, _, rfl, l_check_people, c_check_people, .inr ⟨(fun z => nomatch z), _, _, _, _, rfl, t_check_people, rfl, (Paired.cons ⟨_, rfl⟩ Paired.nil)⟩, .inl rfl⟩, k_check_people⟩
  obtain ⟨ds6, vs6, b6⟩ := F6.binds1 (ps := ps_check_people) 2 1 (fun z => nomatch z) rfl fun _ _ _ _ _ _ _ us its h1 h2 => match us, its, h1, h2 with | [_, _], [_], _, _ => ⟨_, rfl, rfl⟩
  cases vs6
  have F7 := fun_mk (st := s_room_at) l_room_at c_room_at k_room_at
  have b7 := F7.binds (ps := ps_room_at) fun _ _ _ _ _ _ us hl => match us, hl with | [_, _], _ => rfl
  have F8 := fun_mk (st := s_mending_coins) l_mending_coins c_mending_coins k_mending_coins
  have b8 := F8.binds (ps := ps_mending_coins) fun _ _ _ _ _ _ us hl => match us, hl with | [_, _], _ => rfl
  have F9 := fun_mk (st := s_l_mix) l_l_mix c_l_mix k_l_mix
  have b9 := F9.binds (ps := ps_l_mix) fun _ _ _ _ _ _ us hl => match us, hl with | [_, _], _ => rfl
  have F10 := fun_mk (st := s_l_hand) l_l_hand c_l_hand k_l_hand
  have b10 := F10.binds (ps := ps_l_hand) fun _ _ _ _ _ _ us hl => match us, hl with | [_], _ => rfl
  have F11 := fun_mk (st := s_l_draw) l_l_draw c_l_draw k_l_draw
  have b11 := F11.binds (ps := ps_l_draw) fun _ _ _ _ _ _ us hl => match us, hl with | [_, _], _ => rfl
  have F12 := fun_mk (st := s_l_pick) l_l_pick c_l_pick k_l_pick
  have b12 := F12.binds (ps := ps_l_pick) fun _ _ _ _ _ _ us hl => match us, hl with | [_, _], _ => rfl
  have F13 := fun_mk (st := s_l_is_whole) l_l_is_whole c_l_is_whole k_l_is_whole
  have b13 := F13.binds (ps := ps_l_is_whole) fun _ _ _ _ _ _ us hl => match us, hl with | [_], _ => rfl
  have F14 := fun_mk (st := s_l_is_coins) l_l_is_coins c_l_is_coins k_l_is_coins
  have b14 := F14.binds (ps := ps_l_is_coins) fun _ _ _ _ _ _ us hl => match us, hl with | [_], _ => rfl
  have F15 := fun_mk (st := s_l_up) l_l_up c_l_up k_l_up
  have b15 := F15.binds (ps := ps_l_up) fun _ _ _ _ _ _ us hl => match us, hl with | [_, _], _ => rfl
  have F16 := fun_mk (st := s_l_serves) l_l_serves c_l_serves k_l_serves
  have b16 := F16.binds (ps := ps_l_serves) fun _ _ _ _ _ _ us hl => match us, hl with | [_, _], _ => rfl
  have F17 := fun_mk (st := s_l_next) l_l_next c_l_next k_l_next
  have b17 := F17.binds (ps := ps_l_next) fun _ _ _ _ _ _ us hl => match us, hl with | [_, _], _ => rfl
  have F18 := fun_mk (st := s_l_odd_people) l_l_odd_people c_l_odd_people k_l_odd_people
  have b18 := F18.binds (ps := ps_l_odd_people) fun _ _ _ _ _ _ us hl => match us, hl with | [_], _ => rfl
  have F19 := fun_mk (st := s_l_pool) l_l_pool c_l_pool k_l_pool
  have b19 := F19.binds (ps := ps_l_pool) fun _ _ _ _ _ _ us hl => match us, hl with | [_, _, _], _ => rfl
  have F20 := fun_mk (st := s_l_robbed) l_l_robbed c_l_robbed k_l_robbed
  have b20 := F20.binds (ps := ps_l_robbed) fun _ _ _ _ _ _ us hl => match us, hl with | [_, _], _ => rfl
  have F21 := fun_mk (st := s_l_walk) l_l_walk c_l_walk k_l_walk
  have b21 := F21.binds (ps := ps_l_walk) fun _ _ _ _ _ _ us hl => match us, hl with | [_, _], _ => rfl
  have F22 := fun_mk (st := s_l_many_lots) l_l_many_lots c_l_many_lots k_l_many_lots
  have b22 := F22.binds (ps := ps_l_many_lots) fun _ _ _ _ _ _ us hl => match us, hl with | [_, _], _ => rfl
  have F23 := fun_mk (st := s_l_lots) l_l_lots c_l_lots k_l_lots
  have b23 := F23.binds (ps := ps_l_lots) fun _ _ _ _ _ _ us hl => match us, hl with | [_, _], _ => rfl
  have F24 := fun_mk (st := s_l_right) l_l_right c_l_right k_l_right
  have b24 := F24.binds (ps := ps_l_right) fun _ _ _ _ _ _ us hl => match us, hl with | [_, _], _ => rfl
  have F25 := fun_mk (st := s_l_small) l_l_small c_l_small k_l_small
  have b25 := F25.binds (ps := ps_l_small) fun _ _ _ _ _ _ us hl => match us, hl with | [_], _ => rfl
  have F26 := fun_mk (st := s_l_far) l_l_far c_l_far k_l_far
  have b26 := F26.binds (ps := ps_l_far) fun _ _ _ _ _ _ us hl => match us, hl with | [_], _ => rfl
  have F27 := fun_mk (st := s_l_told) l_l_told c_l_told k_l_told
  have b27 := F27.binds (ps := ps_l_told) fun _ _ _ _ _ _ us hl => match us, hl with | [_, _], _ => rfl
  have F28 := fun_mk (st := s_l_refusals_right) l_l_refusals_right c_l_refusals_right k_l_refusals_right
  have b28 := F28.binds (ps := ps_l_refusals_right) fun _ _ _ _ _ _ us hl => match us, hl with | [_, _, _], _ => rfl
  have F29 := fun_mk (st := s_law) l_law c_law k_law
  have b29 := F29.binds (ps := ps_law) fun _ _ _ _ _ _ us hl => match us, hl with | [_], _ => rfl
  have T : Txt K mg cBadPool cBadPeople :=
    { d_is_number := ⟨_, _, F2, PySem.W.mg_of X G a_is_number, b2⟩,
      d_is_whole := ⟨_, _, F3, PySem.W.mg_of X G a_is_whole, b3⟩,
      d_is_row := ⟨_, _, F4, PySem.W.mg_of X G a_is_row, b4⟩,
      d_check_pool := ⟨_, _, F5, PySem.W.mg_of X G a_check_pool, b5⟩,
      d_check_people := ⟨_, _, F6, PySem.W.mg_of X G a_check_people, b6⟩,
      d_room_at := ⟨_, _, F7, PySem.W.mg_of X G a_room_at, b7⟩,
      d_mending_coins := ⟨_, _, F8, PySem.W.mg_of X G a_mending_coins, b8⟩,
      d_l_mix := ⟨_, _, F9, PySem.W.mg_of X G a_l_mix, b9⟩,
      d_l_hand := ⟨_, _, F10, PySem.W.mg_of X G a_l_hand, b10⟩,
      d_l_draw := ⟨_, _, F11, PySem.W.mg_of X G a_l_draw, b11⟩,
      d_l_pick := ⟨_, _, F12, PySem.W.mg_of X G a_l_pick, b12⟩,
      d_l_is_whole := ⟨_, _, F13, PySem.W.mg_of X G a_l_is_whole, b13⟩,
      d_l_is_coins := ⟨_, _, F14, PySem.W.mg_of X G a_l_is_coins, b14⟩,
      d_l_up := ⟨_, _, F15, PySem.W.mg_of X G a_l_up, b15⟩,
      d_l_serves := ⟨_, _, F16, PySem.W.mg_of X G a_l_serves, b16⟩,
      d_l_next := ⟨_, _, F17, PySem.W.mg_of X G a_l_next, b17⟩,
      d_l_odd_people := ⟨_, _, F18, PySem.W.mg_of X G a_l_odd_people, b18⟩,
      d_l_pool := ⟨_, _, F19, PySem.W.mg_of X G a_l_pool, b19⟩,
      d_l_robbed := ⟨_, _, F20, PySem.W.mg_of X G a_l_robbed, b20⟩,
      d_l_walk := ⟨_, _, F21, PySem.W.mg_of X G a_l_walk, b21⟩,
      d_l_many_lots := ⟨_, _, F22, PySem.W.mg_of X G a_l_many_lots, b22⟩,
      d_l_lots := ⟨_, _, F23, PySem.W.mg_of X G a_l_lots, b23⟩,
      d_l_right := ⟨_, _, F24, PySem.W.mg_of X G a_l_right, b24⟩,
      d_l_small := ⟨_, _, F25, PySem.W.mg_of X G a_l_small, b25⟩,
      d_l_far := ⟨_, _, F26, PySem.W.mg_of X G a_l_far, b26⟩,
      d_l_told := ⟨_, _, F27, PySem.W.mg_of X G a_l_told, b27⟩,
      d_l_refusals_right := ⟨_, _, F28, PySem.W.mg_of X G a_l_refusals_right, b28⟩,
      d_law := ⟨_, _, F29, PySem.W.mg_of X G a_law, b29⟩,
      c_MOST_COINS := ⟨_, PySem.W.mg_of X G v_MOST_COINS, ⟨_, rfl⟩⟩,
      c_GREATEST_COIN := ⟨_, PySem.W.mg_of X G v_GREATEST_COIN, ⟨_, rfl⟩⟩,
      c_MOST_PEOPLE := ⟨_, PySem.W.mg_of X G v_MOST_PEOPLE, ⟨_, rfl⟩⟩,
      c_LEAST_PEOPLE := ⟨_, PySem.W.mg_of X G v_LEAST_PEOPLE, ⟨_, rfl⟩⟩,
      n_isinstance := PySem.W.mg_none_of X G n_isinstance,
      n_int := PySem.W.mg_none_of X G n_int,
      n_bool := PySem.W.mg_none_of X G n_bool,
      n_list := PySem.W.mg_none_of X G n_list,
      n_tuple := PySem.W.mg_none_of X G n_tuple,
      n_len := PySem.W.mg_none_of X G n_len,
      n_enumerate := PySem.W.mg_none_of X G n_enumerate,
      n_sorted := PySem.W.mg_none_of X G n_sorted,
      n_abs := PySem.W.mg_none_of X G n_abs,
      n_range := PySem.W.mg_none_of X G n_range,
      n_sum := PySem.W.mg_none_of X G n_sum,
      n_max := PySem.W.mg_none_of X G n_max,
      y_BadPool := ⟨PySem.W.mg_of X G g_BadPool, ⟨⟨_, _, _, _, _, _, _, _, _, _, _, _, _, _, _, x_BadPool, (show PySem.HandSPX.refsVE [.type "ValueError", .type "Exception", .type "BaseException", .type "object"] = true by decide +kernel)⟩, s_BadPool, e_BadPool, t_BadPool, k_BadPool⟩, ⟨_, _, F1, b1, a_i_BadPool, t_i_BadPool⟩⟩,
      x_BadPool := ⟨ga_BadPool, gg_BadPool, e_BadPool, hd_BadPool⟩,
      f_BadPool_place := f_BadPool_place,
      f_BadPool_what := f_BadPool_what,
      y_BadPeople := ⟨PySem.W.mg_of X G g_BadPeople, x_BadPeople, k_BadPeople, e_BadPeople, t_BadPeople⟩,
      m_BadPool_BadPool := exm_mk e_BadPool i_BadPool t_BadPool m_BadPool_BadPool,
      m_BadPool_BadPeople := exm_mk e_BadPeople i_BadPeople t_BadPeople m_BadPool_BadPeople,
      m_BadPeople_BadPool := exm_mk e_BadPool i_BadPool t_BadPool m_BadPeople_BadPool,
      m_BadPeople_BadPeople := exm_mk e_BadPeople i_BadPeople t_BadPeople m_BadPeople_BadPeople }
  exact ⟨_, fun s v => .of_eq rfl, fun base _ _ => ok_law F29 T⟩
theorem walk {l : PySem.W.OpenLaw} {q : Program} {loose : List Str} {XP : (Str → Option Value) → Heap → Prop} {YP : World → Heap → Prop} {d : DefRec} {K : Params → PySem.W.Frag} (hn : l.most = some 63) (hdf : d.params.defaults = [])
    (hY : ∀ (w : World) (h : Heap), YP w h → (K w.params).In h)
    (F : ∀ (w : World) (mg : Str → Option Value) (fa : Addr) (h : Heap), (K w.params).In h → h.Ns mainGlobals mg → mg d.name = some (.ref fa) →
      ∃ fd : FuncData, (∀ (s : Shared) (u : Value), BindsTo s fd ⟨[u], []⟩ [("_law_script", u)]) ∧ ∀ base : Heap, (K w.params).In base → base.Ns mainGlobals mg → FnOk l.prog w (K w.params) mg base CX0 7 fa fd ["_law_script"] (sp_law (K w.params))) :
    PySem.W.WalkO q loose XP YP l.row.toRowW d [] (fun f vs => PySem.call f vs) :=
  L2.walk_of (n := 63) (k := 7) (x := "_law_script") (CX := fun _ => CX0) (sp := fun w => sp_law (K w.params)) hn (by decide) hdf ⟨rfl, by decide, by decide⟩ hY F (fun _ _ a ns hl _ hS => ⟨a, ns, rfl, hS, hl, fun _ => rfl⟩) fun _ _ _ _ _ z => z
end My
open PySem PySem.W PyProof.Rows
set_option maxRecDepth 100000 in
set_option maxHeartbeats 0 in
theorem PySem.Challenge.cw_anyworths_k22_whole_fewest_coins_that_me_holds : PySem.Challenge.rw_anyworths_k22_whole_fewest_coins_that_me.Holds := by
  w_on; o_law; k_head; (case hw => w_witness2)
  k_fill
  refine My.walk (l := PySem.Challenge.rw_anyworths_k22_whole_fewest_coins_that_me) rfl rfl (fun w h Y => PySem.W.kIn_of Y) ?F
  case F =>
    intro w mg fa h KX G hmg
    refine' My.all_mk KX G hmg ?g_BadPool ?g_BadPeople ?a_i_BadPool ?l_i_BadPool ?c_i_BadPool ?k_i_BadPool ?t_i_BadPool ?a_is_number ?l_is_number ?c_is_number ?k_is_number ?a_is_whole ?l_is_whole ?c_is_whole ?k_is_whole ?a_is_row ?l_is_row ?c_is_row ?k_is_row ?a_check_pool ?l_check_pool ?c_check_pool ?k_check_pool ?a_check_people ?l_check_people ?t_check_people ?c_check_people ?k_check_people ?a_room_at ?l_room_at ?c_room_at ?k_room_at ?a_mending_coins ?l_mending_coins ?c_mending_coins ?k_mending_coins ?a_l_mix ?l_l_mix ?c_l_mix ?k_l_mix ?a_l_hand ?l_l_hand ?c_l_hand ?k_l_hand ?a_l_draw ?l_l_draw ?c_l_draw ?k_l_draw ?a_l_pick ?l_l_pick ?c_l_pick ?k_l_pick ?a_l_is_whole ?l_l_is_whole ?c_l_is_whole ?k_l_is_whole ?a_l_is_coins ?l_l_is_coins ?c_l_is_coins ?k_l_is_coins ?a_l_up ?l_l_up ?c_l_up ?k_l_up ?a_l_serves ?l_l_serves ?c_l_serves ?k_l_serves ?a_l_next ?l_l_next ?c_l_next ?k_l_next ?a_l_odd_people ?l_l_odd_people ?c_l_odd_people ?k_l_odd_people ?a_l_pool ?l_l_pool ?c_l_pool ?k_l_pool ?a_l_robbed ?l_l_robbed ?c_l_robbed ?k_l_robbed ?a_l_walk ?l_l_walk ?c_l_walk ?k_l_walk ?a_l_many_lots ?l_l_many_lots ?c_l_many_lots ?k_l_many_lots ?a_l_lots ?l_l_lots ?c_l_lots ?k_l_lots ?a_l_right ?l_l_right ?c_l_right ?k_l_right ?a_l_small ?l_l_small ?c_l_small ?k_l_small ?a_l_far ?l_l_far ?c_l_far ?k_l_far ?a_l_told ?l_l_told ?c_l_told ?k_l_told ?a_l_refusals_right ?l_l_refusals_right ?c_l_refusals_right ?k_l_refusals_right ?a_law ?l_law ?c_law ?k_law ?v_MOST_COINS ?v_GREATEST_COIN ?v_MOST_PEOPLE ?v_LEAST_PEOPLE ?n_isinstance ?n_int ?n_bool ?n_list ?n_tuple ?n_len ?n_enumerate ?n_sorted ?n_abs ?n_range ?n_sum ?n_max ?k_BadPool ?e_BadPool ?t_BadPool ?i_BadPool ?x_BadPool ?s_BadPool ?ga_BadPool ?gg_BadPool ?hd_BadPool ?f_BadPool_place ?f_BadPool_what ?k_BadPeople ?e_BadPeople ?t_BadPeople ?i_BadPeople ?x_BadPeople ?m_BadPool_BadPool ?m_BadPool_BadPeople ?m_BadPeople_BadPool ?m_BadPeople_BadPeople
    (case g_BadPool => k_is)
    (case g_BadPeople => k_is)
    (case a_i_BadPool => k_is)
    (case l_i_BadPool => k_is)
    (case c_i_BadPool => k_is)
    (case k_i_BadPool => k_is)
    (case t_i_BadPool => k_is)
    (case a_is_number => k_is)
    (case l_is_number => k_is)
    (case c_is_number => k_is)
    (case k_is_number => k_is)
    (case a_is_whole => k_is)
    (case l_is_whole => k_is)
    (case c_is_whole => k_is)
    (case k_is_whole => k_is)
    (case a_is_row => k_is)
    (case l_is_row => k_is)
    (case c_is_row => k_is)
    (case k_is_row => k_is)
    (case a_check_pool => k_is)
    (case l_check_pool => k_is)
    (case c_check_pool => k_is)
    (case k_check_pool => k_is)
    (case a_check_people => k_is)
    (case l_check_people => k_is)
    (case t_check_people => k_is)
    (case c_check_people => k_is)
    (case k_check_people => k_is)
    (case a_room_at => k_is)
    (case l_room_at => k_is)
    (case c_room_at => k_is)
    (case k_room_at => k_is)
    (case a_mending_coins => k_is)
    (case l_mending_coins => k_is)
    (case c_mending_coins => k_is)
    (case k_mending_coins => k_is)
    (case a_l_mix => k_is)
    (case l_l_mix => k_is)
    (case c_l_mix => k_is)
    (case k_l_mix => k_is)
    (case a_l_hand => k_is)
    (case l_l_hand => k_is)
    (case c_l_hand => k_is)
    (case k_l_hand => k_is)
    (case a_l_draw => k_is)
    (case l_l_draw => k_is)
    (case c_l_draw => k_is)
    (case k_l_draw => k_is)
    (case a_l_pick => k_is)
    (case l_l_pick => k_is)
    (case c_l_pick => k_is)
    (case k_l_pick => k_is)
    (case a_l_is_whole => k_is)
    (case l_l_is_whole => k_is)
    (case c_l_is_whole => k_is)
    (case k_l_is_whole => k_is)
    (case a_l_is_coins => k_is)
    (case l_l_is_coins => k_is)
    (case c_l_is_coins => k_is)
    (case k_l_is_coins => k_is)
    (case a_l_up => k_is)
    (case l_l_up => k_is)
    (case c_l_up => k_is)
    (case k_l_up => k_is)
    (case a_l_serves => k_is)
    (case l_l_serves => k_is)
    (case c_l_serves => k_is)
    (case k_l_serves => k_is)
    (case a_l_next => k_is)
    (case l_l_next => k_is)
    (case c_l_next => k_is)
    (case k_l_next => k_is)
    (case a_l_odd_people => k_is)
    (case l_l_odd_people => k_is)
    (case c_l_odd_people => k_is)
    (case k_l_odd_people => k_is)
    (case a_l_pool => k_is)
    (case l_l_pool => k_is)
    (case c_l_pool => k_is)
    (case k_l_pool => k_is)
    (case a_l_robbed => k_is)
    (case l_l_robbed => k_is)
    (case c_l_robbed => k_is)
    (case k_l_robbed => k_is)
    (case a_l_walk => k_is)
    (case l_l_walk => k_is)
    (case c_l_walk => k_is)
    (case k_l_walk => k_is)
    (case a_l_many_lots => k_is)
    (case l_l_many_lots => k_is)
    (case c_l_many_lots => k_is)
    (case k_l_many_lots => k_is)
    (case a_l_lots => k_is)
    (case l_l_lots => k_is)
    (case c_l_lots => k_is)
    (case k_l_lots => k_is)
    (case a_l_right => k_is)
    (case l_l_right => k_is)
    (case c_l_right => k_is)
    (case k_l_right => k_is)
    (case a_l_small => k_is)
    (case l_l_small => k_is)
    (case c_l_small => k_is)
    (case k_l_small => k_is)
    (case a_l_far => k_is)
    (case l_l_far => k_is)
    (case c_l_far => k_is)
    (case k_l_far => k_is)
    (case a_l_told => k_is)
    (case l_l_told => k_is)
    (case c_l_told => k_is)
    (case k_l_told => k_is)
    (case a_l_refusals_right => k_is)
    (case l_l_refusals_right => k_is)
    (case c_l_refusals_right => k_is)
    (case k_l_refusals_right => k_is)
    (case a_law => k_is)
    (case l_law => k_is)
    (case c_law => k_is)
    (case k_law => k_is)
    (case v_MOST_COINS => k_is)
    (case v_GREATEST_COIN => k_is)
    (case v_MOST_PEOPLE => k_is)
    (case v_LEAST_PEOPLE => k_is)
    (case n_isinstance => k_is)
    (case n_int => k_is)
    (case n_bool => k_is)
    (case n_list => k_is)
    (case n_tuple => k_is)
    (case n_len => k_is)
    (case n_enumerate => k_is)
    (case n_sorted => k_is)
    (case n_abs => k_is)
    (case n_range => k_is)
    (case n_sum => k_is)
    (case n_max => k_is)
    (case k_BadPool => k_is)
    (case e_BadPool => k_is)
    (case t_BadPool => k_is)
    (case i_BadPool => k_is)
    (case x_BadPool => k_is)
    (case s_BadPool => k_is)
    (case ga_BadPool => k_is)
    (case gg_BadPool => k_is)
    (case hd_BadPool => k_is)
    (case f_BadPool_place => k_is)
    (case f_BadPool_what => k_is)
    (case k_BadPeople => k_is)
    (case e_BadPeople => k_is)
    (case t_BadPeople => k_is)
    (case i_BadPeople => k_is)
    (case x_BadPeople => k_exc)
    (case m_BadPool_BadPool => first | rfl | k_is)
    (case m_BadPool_BadPeople => k_is)
    (case m_BadPeople_BadPool => k_is)
    (case m_BadPeople_BadPeople => first | rfl | k_is)

