import PyProof.Rows.All
import Wide.All
import OpenK.AllK
import Wide.FinOn
import PyProof.EqAt
import PyProof.EqKinds
import PyProof.TupleCall
import Open.SpecLaws
import KE.OsGo
import PySem.Challenge.RW_anyworths_k04_lots_taken_and_pools_joine
import HandS.ForMost
import HandS.ForExc
import HandS.TryMany
import HandS.ExcInit
import HandS.ExcField
import HandS.Wide
import HandS.IsInst
import HandS.Defaults
import HandS.Small
import HandS.SlotsOwn
import HandS.SetFor
import KE.GoesMore
import KE.GoesEnum
import KE.SortCalls
import PyProof.InstEq
import PyProof.TupleOfSeq
import PyProof.SumWalkG
import PyProof.WalkInts
import PyProof.Rows.SortShellAny
import PyProof.Rows.SortWalk
import KE.OsSort
import OpenK.KEqL
import HandS.TupAny
import HandS.TupMul
import KE.KFind
set_option Elab.async false
set_option linter.all false
set_option maxRecDepth 100000
set_option maxHeartbeats 4000000
/-! ## The general part: several except clauses with and without a name, own errors, defs as they stand behind the top -/
namespace Gen
open PySem PySem.Spec PyProof.Rows L2
/-- a suite's reading: the exception's place, its class, its dict -/
abbrev SU := Addr → Value → Option Addr → TS
/-- what follows a suite that has named its exception: the name's slot is empty again -/
def Ends.off (D : Ends) (i : Nat) : Ends :=
  { nx := fun z h => D.nx (z.set i none) h, rt := D.rt, bk := fun z h => D.bk (z.set i none) h, ct := fun z h => D.ct (z.set i none) h }
def suiteOf (D : Ends) (o : Option Nat) (t : SU) (a : Addr) (c : Value) (d : Option Addr) (z : L2.St) (h : Hp) : Prop :=
  match o with
  | none => t a c d D z h
  | some i => t a c d (Ends.off D i) (z.set i (some (.ref a))) h
/-- what the clauses wish, one behind the other -/
def wMix (K : PySem.W.Frag) (Wo : WX) (D : Ends) : List (Value × Option Nat × SU) → WX
  | [] => Wo
  | (c, o, t) :: rest => fun k d z h => ∃ yes, PySem.W.exmOne K k c = some yes ∧ (yes = true → ∀ a, h a = none → suiteOf D o t a k d z h) ∧ (yes = false → wMix K Wo D rest k d z h)
inductive HdsX (X : Cx) : List ExceptHandler → List (Value × Option Nat × SU) → Prop
  | nil : HdsX X [] []
  | one {x : Str} {c : Value} {t : SU} {b : Stmt} {bs : List Stmt} {p1 p2 : Pos} {hs : List ExceptHandler} {l : List (Value × Option Nat × SU)} (nm : Names X x c)
      (su : ∀ (a : Addr) (oe : Obj) (k : Value) (d : Option Addr) (pn : List (Addr × Obj)), Zc k d oe → (∃ fs, oe.data = .fields fs) → PSs (X.suite a ((a, oe) :: pn)) (b :: bs) (t a k d))
      (r : HdsX X hs l) : HdsX X (.ExceptHandler (some (.Name x p1)) none (b :: bs) p2 :: hs) ((c, none, t) :: l)
  | asn {i : Nat} {n x : Str} {c : Value} {t : SU} {b : Stmt} {bs : List Stmt} {p1 p2 : Pos} {hs : List ExceptHandler} {l : List (Value × Option Nat × SU)} (nm : Names X x c)
      (nd : X.N.Nodup) (ni : X.N[i]? = some n) (nl : X.env.kindOf n = some .local)
      (su : ∀ (a : Addr) (oe : Obj) (k : Value) (d : Option Addr) (pn : List (Addr × Obj)), Zc k d oe → (∃ fs, oe.data = .fields fs) → PSs (X.suite a ((a, oe) :: pn)) (b :: bs) (t a k d))
      (r : HdsX X hs l) : HdsX X (.ExceptHandler (some (.Name x p1)) (some n) (b :: bs) p2 :: hs) ((c, some i, t) :: l)
section
variable {X : Cx} {body : List Stmt} {h1 : ExceptHandler} {hs : List ExceptHandler} {l : List (Value × Option Nat × SU)} {pos : Pos} {tb : WX → TS} {Wo : WX}
theorem ps_try_mix (est : X.stack = X.env :: X.outer) (efr : X.env.frame = some X.env.locals) (tkO : Takes X Wo)
    (hb : ∀ (W : WX) (pn : List (Addr × Obj)) (xe : Value → Shared → Prop), Takes (X.tr pn xe) W → PassesOwn (model X.prog X.w) X.A X.env xe → PSs (X.tr pn xe) body (tb W))
    (hh : HdsX X (h1 :: hs) l) : PS X (.Try body (h1 :: hs) [] [] pos) (fun D z h => tb (wMix X.K Wo D l) D z h) := by
  refine ⟨fun pins s z h D I red => ?_⟩
  have good := I.ok
  have efs : X.A.frames = some (X.env :: X.outer) := good.frames.trans (congrArg some est)
  refine wpAny_Try_except (wpAny_mono ((hb (wMix X.K Wo D l) (X.pn ++ pins) (fun e u1 => wpAny (model X.prog X.w) X.A (noteFrame e X.env) (fun _ u2 => wpAny (model X.prog X.w) X.A (setFlight e none) (fun _ u3 =>
    wpAny (model X.prog X.w) X.A (handleBy e X.env (h1 :: hs)) (SP X pins D) X.xe u3) X.xe u2) X.xe u1) (fun u u' air => ?_) PassesOwn.looking).run [] s z h D (I.toTry _) red) (fun fl u1 sp1 => ?_) (fun e u1 q => q))
  · obtain ⟨a, B, sI, pins2, z2, g2, k, d, rfl, J0, nb, up, sky0, na, os, ag, wish⟩ := air
    have J : Inv X pins z2 g2 sI := J0.ofTry good
    have sky : Sky B (X.env :: X.outer) a (Zc k d) X.env.locals u'.heap := est ▸ sky0
    show wpAny (model X.prog X.w) X.A (noteFrame (.ref a) X.env) _ _ _
    refine Sky.land Zc.steady efs efr sky fun hp3 fl3 up3 => ?_
    have J3 : Inv X pins z2 g2 { u' with heap := hp3 } := J.landed nb fl3.1 (up.trans up3) os ag
    obtain ⟨o3, fs3, e3, zc3, d3⟩ := fl3.there
    have offFr : ∀ {hp : Heap} {o : Obj} {fs : Array Value}, hp.FunFrames B (X.env :: X.outer) → hp.get? a = some o → o.data = .fields fs → a ∉ frs (X.env :: X.outer) := fun {hp o fs} ff eo dd hm => by
      obtain ⟨_, o', eo', nf⟩ := ff.mem hm
      cases eo.symm.trans eo'
      exact nf _ dd
    have nfr := offFr fl3.2.2.1 e3 d3
    have nL : a ≠ X.env.locals := fun q => nfr (List.mem_filterMap.mpr ⟨X.env, List.mem_cons_self, efr.trans (congrArg some q.symm)⟩)
    have nF : a ∉ X.fs := fun hm => by
      obtain ⟨en, hen, q⟩ := List.mem_filterMap.mp hm
      exact nfr (List.mem_filterMap.mpr ⟨en, List.mem_cons_of_mem _ hen, q⟩)
    have S3 := J3.suite e3 d3 na nL nF
    have looksT : PySem.W.Looks (model X.prog X.w) hp3 (typeOf (.ref a)) k := fun A Q E s kp q => wpAny_typeOf_ref (kp _ _ e3) (by rw [zc3.1]; exact q)
    have named : ∀ {x : Str} {c : Value} {np : Pos} {Q : Value → Shared → Prop} {E : Value → Shared → Prop}, Names X x c → Q c { u' with heap := hp3 } →
        wpAny (model X.prog X.w) (X.A.mark (some (.ref a))) (eval (.Name x np) X.env) Q E { u' with heap := hp3 } := fun {x c np Q E} nm q => by
      rcases nm with ⟨hg, hd, hm | ⟨hm, hv, hx⟩⟩
      · exact ld_glob (X := X.suite a ((a, o3) :: (X.pn ++ pins))) S3 hg hm q hd
      · exact ld_blt (X := X.suite a ((a, o3) :: (X.pn ++ pins))) S3 hg hm hv q hx hd
    have go : ∀ {hs' : List ExceptHandler} {l' : List (Value × Option Nat × SU)}, HdsX X hs' l' → wMix X.K Wo D l' k d z2 g2 →
        wpAny (model X.prog X.w) X.A (handleBy (.ref a) X.env hs') (SP X pins D) X.xe { u' with heap := hp3 } := by
      intro hs' l' hk
      induction hk with
      | nil =>
        intro wish
        refine wpAny_handleBy_nil ?_
        obtain ⟨q1, q2, q3, oe, fs, T, oT, ts', eo, zc, dd, one, more⟩ := id fl3
        unfold PySem.passOn
        refine wpAny_bind (wpAny_field eo dd one ?_)
        rw [if_neg (show ¬ ((Value.ref T == Value.none) = true) by simp)]
        have away : wpAny (model X.prog X.w) X.A (setFlight (.ref a) X.env.frame) (fun _ u4 => wpAny (model X.prog X.w) X.A (throw (.ref a) : Sem Flow) (SP X pins D) X.xe u4) X.xe { u' with heap := hp3 } := by
          rw [efr]
          refine HandSPX.setFlight_upZ fl3 fun hp4 sky4 up4 => wpAny_throw (tkO _ _ ?_)
          exact ⟨a, B, sI, pins, z2, g2, k, d, rfl, J, nb, (up.trans up3).trans up4, .inr (.inr (est ▸ sky4)), na, os, ag, wish⟩
        first
          | exact wpAny_bind (wpAny_pure (wpAny_bind away))
          | exact wpAny_bind away
      | @one x c t b bs p1 p2 hs2 l2 nm su r ih =>
        intro wish
        obtain ⟨yes, ex, wy, wn⟩ := wish
        refine wpAny_handleBy_cons (codeAny_handlers_test (named nm ((PySem.W.exm_one (M := model X.prog X.w) J3.kIn looksT ex).here ?_))) (by intro q; cases q)
        cases yes with
        | true =>
          refine codeAny_handlers_suite (HandSPX.lands_againZ fl3 fun hp4 fl4 up4 => ?_)
          have J4 : Inv X pins z2 g2 { u' with heap := hp4 } := J.landed nb fl4.1 ((up.trans up3).trans up4) os ag
          obtain ⟨o4, fs4, e4, zc4, d4⟩ := fl4.there
          refine wpAny_mono ((su a o4 k d (X.pn ++ pins) zc4 ⟨_, d4⟩).run [] _ _ g2 _ (J4.suite e4 d4 na nL nF) (wy rfl a na)) (fun fl u6 sp6 => ?_) (fun _ _ q => False.elim q)
          cases fl with
          | ret v =>
            obtain ⟨v6, z6, g6, S6, r6, q6⟩ := sp6
            exact ⟨_, _, _, S6.unsuite good, r6, q6⟩
          | _ =>
            obtain ⟨z6, g6, S6, q6⟩ := sp6
            exact ⟨_, _, S6.unsuite good, q6⟩
        | false =>
          show wpAny _ X.A (handleBy (.ref a) X.env hs2) _ _ _
          exact ih (wn rfl)
      | @asn i n x c t b bs p1 p2 hs2 l2 nm nd ni nl su r ih =>
        intro wish
        obtain ⟨yes, ex, wy, wn⟩ := wish
        refine wpAny_handleBy_cons (codeAny_handlers_test (named nm ((PySem.W.exm_one (M := model X.prog X.w) J3.kIn looksT ex).here ?_))) (by intro q; cases q)
        cases yes with
        | true =>
          refine codeAny_handlers_suite_as (HandSPX.lands_againZ fl3 fun hp4 fl4 up4 => ?_)
          have J4 : Inv X pins z2 g2 { u' with heap := hp4 } := J.landed nb fl4.1 ((up.trans up3).trans up4) os ag
          obtain ⟨o4, fs4, e4, zc4, d4⟩ := fl4.there
          refine store_ok (X := X.suite a ((a, o4) :: (X.pn ++ pins))) (v := .ref a) (J4.suite e4 d4 na nL nF) nd ni (.inl nl) rfl (fun u5 S5 => ?_) (.inr nl)
          refine wpAny_mono ((su a o4 k d (X.pn ++ pins) zc4 ⟨_, d4⟩).run [] u5 _ g2 _ S5 (wy rfl a na)) (fun fl u6 sp6 => ?_) (fun _ _ q => False.elim q)
          have left : ∀ {z6 : L2.St} {g6 : Hp} {R : Shared → Prop}, Inv (X.suite a ((a, o4) :: (X.pn ++ pins))) [] z6 g6 u6 → (∀ u7, Inv X pins (z6.set i none) g6 u7 → R u7) →
              wpAny (model X.prog X.w) X.A (do bindName X.env n .none; unbindBehindTheSuite X.env n p2) (fun _ u7 => R u7) X.xe u6 := fun {z6 g6 R} S6 q => gone_ok (S6.unsuite good) nd ni nl q
          cases fl with
          | ret v =>
            obtain ⟨v6, z6, g6, S6, r6, q6⟩ := sp6
            exact left S6 fun u7 J7 => ⟨_, _, _, J7, r6, q6⟩
          | _ =>
            obtain ⟨z6, g6, S6, q6⟩ := sp6
            exact left S6 fun u7 J7 => ⟨_, _, J7, q6⟩
        | false =>
          show wpAny _ X.A (handleBy (.ref a) X.env hs2) _ _ _
          exact ih (wn rfl)
    exact go hh wish
  · cases fl with
    | ret v =>
      obtain ⟨v2, z2, g2, J2, r2, q2⟩ := sp1
      exact ⟨v2, z2, g2, J2.ofTry good, r2, q2⟩
    | next =>
      obtain ⟨z2, g2, J2, q2⟩ := sp1
      exact wpAny_execs_nil ⟨z2, g2, J2.ofTry good, q2⟩
    | _ =>
      obtain ⟨z2, g2, J2, q2⟩ := sp1
      exact ⟨z2, g2, J2.ofTry good, q2⟩
end
/-! ### defs as they stand behind the top -/
def Df (K : PySem.W.Frag) (mg : Str → Option Value) (x : Str) (st : Stmt) (ps : List Str) : Prop :=
  ∃ f fd, Fun K x x st f fd ∧ mg x = some (.ref f) ∧ Binds K fd ps []
/-- with defaults; one is left out in some call -/
def DfD (K : PySem.W.Frag) (mg : Str → Option Value) (x : Str) (st : Stmt) (ps : List Str) (dvs : List V) : Prop :=
  ∃ f fd, FunD K x x (defArgs st) (defBody st) (defScope st) dvs [] f fd ∧ mg x = some (.ref f) ∧ Binds K fd ps []
/-- an own error without an __init__ -/
structure XP (K : PySem.W.Frag) (mg : Str → Option Value) (x : Str) (C : Addr) : Prop where
  gC : mg x = some (.ref C)
  xC : PySem.W.excIn K C [.type "ValueError", .type "Exception", .type "BaseException", .type "object"] "ValueError.__new__" = true
  kC : PySem.W.keepIn K (.ref C) = true
  eC : PySem.W.subIn K (.ref C) (.type "BaseException") = some true
  tC : PySem.W.typeIn K (.ref C) = some (.type "type")
theorem XP.made {X : Cx} {x : Str} {C : Addr} {p pos : Pos} (T : XP X.K X.mg x C) (hg : Gl X x) (hdb : (x == ("__debug__" : Str)) = false := by decide) :
    PMk X (.Call (.Name x p) [] [] pos) (fun _ H Q => Q (.ref C) none H) := by
  intro pins s z H Q I q
  refine wpAny_Call_Name_kw (ld_glob I hg T.gC (PySem.W.callWith_K0 I.kIn T.kC ?_) hdb)
  obtain ⟨bm, N, nm, qn, bs, hdct, sn, sub, ab, col, dd, k0, k1, k2, k3, k5, mN, hC, hN, hni, tl⟩ := exc_obj I.kIn T.xC
  exact wpAny_call_exc_subT F.excBase_ValueError tl hC hN hni (fun h' e hm => mk_of I hm (raises_own T.eC T.tC) q (I.hok.gone hm.new)) (by show 0 ≤ sizeLine; exact Nat.zero_le _)
/-- an own error whose __init__ keeps its arguments -/
structure XI (K : PySem.W.Frag) (mg : Str → Option Value) (x qual : Str) (st : Stmt) (ps : List Str) (C : Addr) : Prop where
  gC : mg x = some (.ref C)
  ox : OexC K C
  ini : ∃ f fd, Fun K "__init__" qual st f fd ∧ Binds K fd ps [] ∧ PySem.W.findIn K (.ref C) "__init__" = some (some (.ref f)) ∧ PySem.W.typeIn K (.ref f) = some (.type "function")
/-- the promise of an __init__ that keeps one argument as f -/
def spI1 (K : PySem.W.Frag) (C : Addr) (f : Str) : Sp := fun vs H Q _ => ∃ a v, vs = [.ref a, v] ∧ H a = some (exo a C none) ∧ OexC K C ∧ PySem.W.findIn K (.ref C) f = some none ∧
  ∀ dx, H dx = none → dx ≠ a → Q .non (upd (upd H dx (exd dx [(f, v)])) a (exo a C (some dx)))
/-- .. two arguments as f and g -/
def spI2 (K : PySem.W.Frag) (C : Addr) (f g : Str) : Sp := fun vs H Q _ => ∃ a v u, vs = [.ref a, v, u] ∧ H a = some (exo a C none) ∧ OexC K C ∧ PySem.W.findIn K (.ref C) f = some none ∧ PySem.W.findIn K (.ref C) g = some none ∧
  ∀ dx, H dx = none → dx ≠ a → Q .non (upd (upd (upd H dx (exd dx [(f, v)])) a (exo a C (some dx))) dx (exd dx [(g, u), (f, v)]))
theorem heap_made {H : Hp} {a d : Addr} {o1 o2 o3 o : HO} (ha : H a = none) (n : d ≠ a) : upd (del (upd (upd (upd H a o1) d o2) a o3) a) d o = upd H d o := by
  funext b
  by_cases hd : b = d
  · rw [hd, upd_same, upd_same]
  · rw [upd_ne hd, upd_ne hd]
    by_cases hb : b = a
    · rw [hb, del_same, ha]
    · rw [del_ne hb, upd_ne hb, upd_ne hd, upd_ne hb]
theorem raise1 {K : PySem.W.Frag} {C : Addr} {f : Str} {H : Hp} {v : V} {Q : XK} {E : XK} (T : OexC K C) (n : PySem.W.findIn K (.ref C) f = some none) (q : ∀ d, H d = none → Q (.ref C) (some d) (upd H d (.xd [(f, v)]))) :
    [v].length ≤ 1000 ∧ ∀ a, H a = none → spI1 K C f (.ref a :: ([v] ++ [])) (upd H a (exo a C none))
      (fun y H2 => y = .non ∧ ∃ (d : Addr) (fs : List (Str × V)), H2 a = some (exo a C (some d)) ∧ H2 d = some (exd d fs) ∧ H d = none ∧ Q (.ref C) (some d) (upd (del H2 a) d (.xd fs))) E := by
  refine ⟨(show 1 ≤ 1000 by decide), fun a ha => ⟨a, v, rfl, upd_same, T, n, fun dx hx ne => ⟨rfl, dx, [(f, v)], upd_same, ?_, ?_, ?_⟩⟩⟩
  · rw [upd_ne ne, upd_same]
  · rwa [upd_ne ne] at hx
  · rw [upd_ne ne] at hx
    rw [heap_made ha ne]
    exact q dx hx
theorem heap_made2 {H : Hp} {a d : Addr} {o1 o2 o3 o4 o : HO} (ha : H a = none) (n : d ≠ a) : upd (del (upd (upd (upd (upd H a o1) d o2) a o3) d o4) a) d o = upd H d o := by
  funext b
  by_cases hd : b = d
  · rw [hd, upd_same, upd_same]
  · rw [upd_ne hd, upd_ne hd]
    by_cases hb : b = a
    · rw [hb, del_same, ha]
    · rw [del_ne hb, upd_ne hd, upd_ne hb, upd_ne hd, upd_ne hb]
theorem raise2 {K : PySem.W.Frag} {C : Addr} {f g : Str} {H : Hp} {v u : V} {Q : XK} {E : XK} (T : OexC K C) (n : PySem.W.findIn K (.ref C) f = some none) (m : PySem.W.findIn K (.ref C) g = some none)
    (q : ∀ d, H d = none → Q (.ref C) (some d) (upd H d (.xd [(g, u), (f, v)]))) :
    [v, u].length ≤ 1000 ∧ ∀ a, H a = none → spI2 K C f g (.ref a :: ([v, u] ++ [])) (upd H a (exo a C none))
      (fun y H2 => y = .non ∧ ∃ (d : Addr) (fs : List (Str × V)), H2 a = some (exo a C (some d)) ∧ H2 d = some (exd d fs) ∧ H d = none ∧ Q (.ref C) (some d) (upd (del H2 a) d (.xd fs))) E := by
  refine ⟨(show 2 ≤ 1000 by decide), fun a ha => ⟨a, v, u, rfl, upd_same, T, n, m, fun dx hx ne => ⟨rfl, dx, [(g, u), (f, v)], ?_, upd_same, ?_, ?_⟩⟩⟩
  · rw [upd_ne (Ne.symm ne), upd_same]
  · rwa [upd_ne ne] at hx
  · rw [upd_ne ne] at hx
    rw [heap_made2 ha ne]
    exact q dx hx
/-! ### numbers and kinds of things -/
theorem cdw {i j : Int} (h : 0 < j) (b : j < 9223372036854775808) : CDivW i j :=
  wide_div (b := 63) h (by have e : (2 : Nat) ^ 63 = 9223372036854775808 := by decide
                           omega) (by decide) (by decide)
theorem cml {i j : Int} (h : -18446744073709551616 < i) (b : i < 18446744073709551616) : CMul i j := by
  have e : (2 : Int) ^ 64 = 18446744073709551616 := by decide
  exact .inl ⟨by omega, by omega⟩
theorem cmr {i j : Int} (h : -18446744073709551616 < j) (b : j < 18446744073709551616) : CMul i j := by
  have e : (2 : Int) ^ 64 = 18446744073709551616 := by decide
  exact .inr ⟨by omega, by omega⟩
/-- the things that a law hands in: None, bools, ints, texts, tuples, lists, dicts -/
def Plain (H : Hp) : V → Prop
  | .non => True
  | .bl _ => True
  | .int _ => True
  | .str _ => True
  | .ref a => (∃ xs, H a = some (.tup xs)) ∨ (∃ xs, H a = some (.lst xs)) ∨ ∃ kvs, H a = some (.dK kvs)
  | _ => False
def isI : V → Bool
  | .int _ => true
  | _ => false
def isB : V → Bool
  | .bl _ => true
  | _ => false
/-- a whole number from lo to hi -/
def whole (x : V) (lo hi : Int) : Bool := match x with
  | .int i => decide (lo ≤ i) && decide (i ≤ hi)
  | _ => false
theorem Plain.same {H H' : Hp} {x : V} (s : Same H H') (h : Plain H x) : Plain H' x := by
  cases x with
  | ref a =>
    rcases h with ⟨xs, h⟩ | ⟨xs, h⟩ | ⟨xs, h⟩
    · exact .inl ⟨xs, s _ _ h⟩
    · exact .inr (.inl ⟨xs, s _ _ h⟩)
    · exact .inr (.inr ⟨xs, s _ _ h⟩)
  | _ => exact h
theorem isi_int {K : PySem.W.Frag} {H : Hp} {x : V} {Q : VK} (h : Plain H x) (q : Q (.bl (isI x || isB x)) H) : rIsi K [x, .ty "int"] H Q := by
  cases x with
  | non => exact ⟨_, _, _, _, false, rfl, .ty _, .base .non, kit_ty (by decide +kernel), q⟩
  | bl b => exact ⟨_, _, _, _, true, rfl, .ty _, .base (.bl _), kit_ty (by decide +kernel), q⟩
  | int i => exact ⟨_, _, _, _, true, rfl, .ty _, .base (.int _), kit_ty (by decide +kernel), q⟩
  | str z => exact ⟨_, _, _, _, false, rfl, .ty _, .base (.str _), kit_ty (by decide +kernel), q⟩
  | ref a =>
    rcases h with ⟨xs, h⟩ | ⟨xs, h⟩ | ⟨xs, h⟩
    · exact ⟨_, _, _, _, false, rfl, .ty _, .base (.tup h), kit_ty (by decide +kernel), q⟩
    · exact ⟨_, _, _, _, false, rfl, .ty _, .base (.lst h), kit_ty (by decide +kernel), q⟩
    · exact ⟨_, _, _, _, false, rfl, .ty _, .base (.dK h), kit_ty (by decide +kernel), q⟩
  | byt _ => exact h.elim
  | flt _ => exact h.elim
  | ty _ => exact h.elim
theorem isi_bool {K : PySem.W.Frag} {H : Hp} {x : V} {Q : VK} (h : Plain H x) (q : Q (.bl (isB x)) H) : rIsi K [x, .ty "bool"] H Q := by
  cases x with
  | non => exact ⟨_, _, _, _, false, rfl, .ty _, .base .non, kit_ty (by decide +kernel), q⟩
  | bl b => exact ⟨_, _, _, _, true, rfl, .ty _, .base (.bl _), kit_ty (by decide +kernel), q⟩
  | int i => exact ⟨_, _, _, _, false, rfl, .ty _, .base (.int _), kit_ty (by decide +kernel), q⟩
  | str z => exact ⟨_, _, _, _, false, rfl, .ty _, .base (.str _), kit_ty (by decide +kernel), q⟩
  | ref a =>
    rcases h with ⟨xs, h⟩ | ⟨xs, h⟩ | ⟨xs, h⟩
    · exact ⟨_, _, _, _, false, rfl, .ty _, .base (.tup h), kit_ty (by decide +kernel), q⟩
    · exact ⟨_, _, _, _, false, rfl, .ty _, .base (.lst h), kit_ty (by decide +kernel), q⟩
    · exact ⟨_, _, _, _, false, rfl, .ty _, .base (.dK h), kit_ty (by decide +kernel), q⟩
  | byt _ => exact h.elim
  | flt _ => exact h.elim
  | ty _ => exact h.elim
/-- T // (m - 1) + 1, again and again -/
def room (p t : Int) : Int := t / (p - 1) + 1
def grow (p : Int) : Nat → Int → Int
  | 0, a => a
  | k + 1, a => grow p k a + room p (grow p k a)
theorem grow_le {p : Int} (hp : 2 ≤ p) : ∀ (k : Nat) {a : Int}, 0 ≤ a → 0 ≤ grow p k a ∧ grow p k a ≤ 2 ^ k * (a + 1) - 1
  | 0, a, h => ⟨h, by show a ≤ 2 ^ 0 * (a + 1) - 1; omega⟩
  | k + 1, a, h => by
    obtain ⟨h1, h2⟩ := grow_le hp k h
    have e : (2 : Int) ^ (k + 1) = 2 * 2 ^ k := by rw [Int.pow_succ, Int.mul_comm]
    have r0 : 0 ≤ grow p k a / (p - 1) := Int.ediv_nonneg h1 (by omega)
    have r1 : grow p k a / (p - 1) ≤ grow p k a := Int.ediv_le_self _ h1
    show 0 ≤ grow p k a + (grow p k a / (p - 1) + 1) ∧ grow p k a + (grow p k a / (p - 1) + 1) ≤ 2 ^ (k + 1) * (a + 1) - 1
    rw [e, Int.mul_assoc]
    omega
theorem whole_of {x : V} {lo hi : Int} (h : whole x lo hi = true) : ∃ i, x = .int i ∧ lo ≤ i ∧ i ≤ hi := by
  cases x with
  | int i =>
    have h' : (decide (lo ≤ i) && decide (i ≤ hi)) = true := h
    rw [Bool.and_eq_true, decide_eq_true_eq, decide_eq_true_eq] at h'
    exact ⟨i, rfl, h'.1, h'.2⟩
  | _ => exact absurd (show false = true from h) Bool.false_ne_true
theorem whole_int {i lo hi : Int} (h1 : lo ≤ i) (h2 : i ≤ hi) : whole (.int i) lo hi = true := by
  show (decide (lo ≤ i) && decide (i ≤ hi)) = true
  rw [decide_eq_true h1, decide_eq_true h2]
  rfl
theorem whole_no {i lo hi : Int} (h : i < lo ∨ hi < i) : whole (.int i) lo hi = false := by
  show (decide (lo ≤ i) && decide (i ≤ hi)) = false
  rcases h with h | h
  · rw [decide_eq_false (by omega : ¬ lo ≤ i)]
    rfl
  · rw [decide_eq_false (by omega : ¬ i ≤ hi), Bool.and_false]
/-- a def that checks a number up to m, then the people from 2 to 5, and then does R -/
def spTwo (cX : Addr) (m : Int) (cP : Addr) (R : Int → Int → VK → Hp → Prop) : Sp := fun vs H Q E => ∃ x y : V, vs = [x, y] ∧ Plain H x ∧ Plain H y ∧
  (whole x 0 m = false → ∀ d, H d = none → E (.ref cX) (some d) (upd H d (.xd [("most", .int m)]))) ∧ (whole x 0 m = true → whole y 2 5 = false → E (.ref cP) none H) ∧
  ∀ t p : Int, x = .int t → y = .int p → 0 ≤ t → t ≤ m → 2 ≤ p → p ≤ 5 → R t p Q H
theorem len_two {cX cP : Addr} {m : Int} {R : Int → Int → VK → Hp → Prop} {vs : List V} {H : Hp} {Q : VK} {E : XK} (h : spTwo cX m cP R vs H Q E) : vs.length = 2 := by
  obtain ⟨_, _, rfl, _⟩ := h; rfl
/-- the fewest steps that reach t -/
def Least (p t : Int) (n : Nat) : Prop := (∀ k, k < n → grow p k 0 < t) ∧ t ≤ grow p n 0
/-! ### for k, x in enumerate(xs) -/
theorem for_enum {K : PySem.W.Frag} {a : Addr} {xs : List V} {g : TG} {tb : TS} {D : Ends} {z0 : L2.St} {H : Hp} (Pv : Nat → L2.St → Hp → Prop) (h0 : Pv 0 z0 H) (hl : ∀ i z h, i ≤ xs.length → Pv i z h → SqL K h a xs)
    (hs : ∀ i x T z h, xs[i]? = some x → h T = none → Pv i z h → g (.ref T) z (upd h T (.tup [.int (i : Nat), x])) fun z2 h2 => tb { D with nx := Pv (i + 1), ct := Pv (i + 1), bk := D.nx } z2 h2) (hd : ∀ z h, Pv xs.length z h → D.nx z h) :
    ∃ W : Nat → Nat → L2.St → Hp → Prop, (∃ m, W 0 m z0 H) ∧ ∀ i m z h, W i m z h →
      ((Ite K a).stop i h ∧ D.nx z h) ∨ ((Ite K a).go i h ∧ ∃ N : L2.St → Hp → Prop, (∀ z' h', N z' h' → ∃ m', m' < m ∧ W (i + 1) m' z' h') ∧ ∀ x h', (Ite K a).yld i h x h' → g x z h' fun z2 h2 => tb { D with nx := N, ct := N, bk := D.nx } z2 h2) := by
  refine ⟨fun i m z h => m = xs.length - i ∧ i ≤ xs.length ∧ Pv i z h, ⟨xs.length, by simp, Nat.zero_le _, h0⟩, ?_⟩
  rintro i m z h ⟨rfl, hi, p⟩
  have q := hl i z h hi p
  by_cases hlt : i < xs.length
  · refine .inr ⟨⟨xs, xs[i], q, by simp [hlt]⟩, Pv (i + 1), fun z' h' p' => ⟨xs.length - (i + 1), by omega, rfl, hlt, p'⟩, fun v h' y => ?_⟩
    obtain ⟨T, x, rfl, hT, rfl, hx⟩ := y
    exact hs i x T z h (hx xs q) hT p
  · obtain rfl : i = xs.length := by omega
    exact .inl ⟨⟨xs, q, Nat.le_refl _⟩, hd z h p⟩
/-! ### the hand of a law: its list [cells, place, rest, total], all of them whole numbers from 0 -/
structure HandAt (H : Hp) (h q : Addr) : Prop where
  ex : ∃ (cs : List Int) (i r t : Int), H h = some (.lst [.ref q, .int i, .int r, .int t]) ∧ H q = some (.lst (cs.map V.int)) ∧ cs.length ≤ 63 ∧ (∀ c, c ∈ cs → 0 ≤ c) ∧ 0 ≤ i ∧ i ≤ cs.length ∧ 0 ≤ r ∧ 0 ≤ t ∧ t < 2147483629
/-- all that stood stands, but for what is at h -/
def But (h : Addr) (H H' : Hp) : Prop := ∀ b o, H b = some o → b ≠ h → H' b = some o
theorem But.refl (h : Addr) (H : Hp) : But h H H := fun _ _ e _ => e
theorem But.trans {h : Addr} {H1 H2 H3 : Hp} (a : But h H1 H2) (b : But h H2 H3) : But h H1 H3 := fun c o e n => b c o (a c o e n) n
theorem But.of {h : Addr} {H H' : Hp} (s : Same H H') : But h H H' := fun b o e _ => s b o e
theorem But.new {h p : Addr} {H : Hp} {o : HO} (hp : H p = none) : But h H (upd H p o) := fun b u e _ => by
  rw [upd_ne (ne_of_none e hp)]; exact e
theorem But.upd {h : Addr} {H : Hp} {o : HO} : But h H (L2.upd H h o) := fun b u e n => by
  rw [upd_ne n]; exact e
theorem But.then {h : Addr} {H H' : Hp} {o : HO} (a : But h H H') : But h H (L2.upd H' h o) := a.trans But.upd
theorem Same.new {p : Addr} {H : Hp} {o : HO} (hp : H p = none) : Same H (upd H p o) := fun b u e => by
  rw [upd_ne (ne_of_none e hp)]; exact e
theorem HandAt.ne {H : Hp} {h q : Addr} (x : HandAt H h q) : h ≠ q := by
  obtain ⟨cs, i, r, t, h1, h2, _⟩ := x.ex
  intro e
  rw [e, h2] at h1
  cases cs with
  | nil => cases h1
  | cons c cs => cases h1
theorem HandAt.same {H H' : Hp} {h q : Addr} (x : HandAt H h q) (s : Same H H') : HandAt H' h q := by
  obtain ⟨cs, i, r, t, h1, h2, m⟩ := x.ex
  exact ⟨cs, i, r, t, s _ _ h1, s _ _ h2, m⟩
theorem HandAt.has {H : Hp} {h q : Addr} (x : HandAt H h q) : ∃ o, H h = some o := by
  obtain ⟨cs, i, r, t, h1, _⟩ := x.ex
  exact ⟨_, h1⟩
theorem HandAt.off {H : Hp} {h q p : Addr} (x : HandAt H h q) (hp : H p = none) : p ≠ h := by
  obtain ⟨o, e⟩ := x.has
  exact fun z => by rw [z, e] at hp; cases hp
/-- a draw's promise: some number below many, the hand as a hand -/
def spDraw : Sp := fun vs H Q _ => ∃ (h q : Addr) (m : Int), vs = [.ref h, .int m] ∧ HandAt H h q ∧ 0 < m ∧ m < 9223372036854775808 ∧
  ∀ d H', 0 ≤ d → d < m → HandAt H' h q → But h H H' → Q (.int d) H'
def spHand (K : PySem.W.Frag) : Sp := fun vs H Q _ => ∃ (a : Addr) (ns : List Int), vs = [.ref a] ∧ SqL K H a (ns.map V.int) ∧ ns.length ≤ 63 ∧
  ∀ h q H', Same H H' → HandAt H' h q → Q (.ref h) H'
def spMix : Sp := fun vs H Q _ => ∃ n t : Int, vs = [.int n, .int t] ∧ 0 ≤ n ∧ n < 2147483648 ∧ 0 ≤ t ∧ t ≤ 1000 ∧ ∀ r, 0 ≤ r → Q (.int r) H
theorem nat_map {ns : List Int} {i : Nat} {y : V} (h : (ns.map V.int)[i]? = some y) : ∃ c, ns[i]? = some c ∧ y = .int c := by
  rw [List.getElem?_map] at h
  cases e : ns[i]? with
  | none => rw [e] at h; cases h
  | some c => rw [e] at h; exact ⟨c, rfl, (Option.some.inj h).symm⟩
theorem two_ok {cX cP : Addr} {m : Int} {R : Int → Int → VK → Hp → Prop} {t p : Int} {H : Hp} {Q : VK} {E : XK} (t0 : 0 ≤ t) (t1 : t ≤ m) (p0 : 2 ≤ p) (p1 : p ≤ 5) (r : R t p Q H) : spTwo cX m cP R [.int t, .int p] H Q E :=
  ⟨_, _, rfl, True.intro, True.intro, fun a => absurd (a.symm.trans (whole_int t0 t1)) (by decide), fun _ b => absurd (b.symm.trans (whole_int p0 p1)) (by decide), fun t' p' e1 e2 _ _ _ _ => by
    cases e1
    cases e2
    exact r⟩
theorem isi_tuple {K : PySem.W.Frag} {H : Hp} {a : Addr} {xs : List V} {Q : VK} (h : H a = some (.tup xs)) (q : Q (.bl true) H) : rIsi K [.ref a, .ty "tuple"] H Q :=
  ⟨_, _, _, _, true, rfl, .ty _, .base (.tup h), kit_ty (by decide +kernel), q⟩
theorem pow2_le {k n : Nat} (h : k ≤ n) : (2 : Int) ^ k ≤ 2 ^ n := by
  have e : (2 : Nat) ^ k ≤ 2 ^ n := Nat.pow_le_pow_right (by decide) h
  have c : ∀ j : Nat, (2 : Int) ^ j = ((2 ^ j : Nat) : Int) := fun j => by
    induction j with
    | zero => rfl
    | succ j ih => rw [Int.pow_succ, ih, Nat.pow_succ]; omega
  rw [c, c]
  omega
/-- two tuples (text, number) with the same data -/
theorem ne_pair {K : PySem.W.Frag} {H : Hp} {a b : Addr} {x : Str} {n : Int} {Q : VK} (ha : H a = some (.tup [.str x, .int n])) (hb : H b = some (.tup [.str x, .int n])) (sx : SeqAt.shaped (.tuple [.str x, .int n]) = true) (q : Q (.bl false) H) : rNeD K (.ref a) (.ref b) H Q := by
  refine ⟨.tuple [.str x, .int n], .tuple [.str x, .int n], .tup (SqT.of ha) (.cons (.str _) (.cons (.int _) .nil)), .tup (SqT.of hb) (.cons (.str _) (.cons (.int _) .nil)), sx, sx, ?_⟩
  have e : PyData.eqv (.tuple [.str x, .int n]) (.tuple [.str x, .int n]) = true := by simp [PyData.eqv, PyData.eqvAll]
  rw [e]
  exact q
theorem Least.one {p t : Int} {n m : Nat} (a : Least p t n) (b : Least p t m) : n = m := by
  rcases Nat.lt_trichotomy n m with h | h | h
  · have z := b.1 n h
    have y := a.2
    omega
  · exact h
  · have z := a.1 m h
    have y := b.2
    omega
/-- what «except» asks of two classes -/
theorem exm_mk {K : PySem.W.Frag} {S R : Addr} {b : Bool} (h1 : PySem.W.subIn K (.ref S) (.type "BaseException") = some true) (h2 : PySem.W.isClsIn K S = true) (h3 : PySem.W.typeIn K (.ref S) = some (.type "type")) (h4 : PySem.W.subIn K (.ref R) (.ref S) = some b) :
    PySem.W.exmOne K (.ref R) (.ref S) = some b := by
  have e1 : (PySem.W.subIn K (.ref S) (.type "BaseException") == some true) = true := by rw [h1]; rfl
  have h2' : (PySem.W.clsIn K S).isSome = true := h2
  have e2 : ((PySem.W.clsIn K S).isSome && PySem.W.typeIn K (.ref S) == some (.type "type")) = true := by rw [h2', h3]; rfl
  show (if _ then (if _ then _ else none) else none) = some b
  rw [if_pos e1, if_pos e2]
  exact h4
end Gen
set_option Elab.async false
set_option linter.all false
set_option maxRecDepth 100000
set_option maxHeartbeats 4000000
/-! ## More rules: == and != of own instances, sorted and sum of tuples, enumerate of tuples -/
namespace Gen
open PySem PySem.Spec PyProof.Rows L2
section
variable {X : Cx} {pins : List (Addr × Obj)} {z : L2.St} {H : Hp} {s : Shared} {n : Nat} {f C : Addr} {fd : FuncData} {ps : List Str} {sp : Sp} {vs : List V} {us : List Value} {Q : VK}
theorem call_below {A : Around} (F : FnOk X.prog X.w X.K X.mg X.base CX0 n f fd ps sp) (hb : L2.Binds X.K fd ps []) (room : Room n A) (efr : A.frames = X.A.frames) (I : Inv X pins z H s) (r : Vals vs us) (q : sp vs H Q E0) :
    wpAny (model X.prog X.w) A (call (.ref f) us) (EP X pins z Q) X.xe s := by
  have e0 : Env0 X.prog X.w X.K X.mg X.base A X.stack s H := by
    have e := I.env0
    exact ⟨by rw [efr]; exact e.frames, e.mod, e.bs, e.bsz, e.funs, e.frf, e.hok, e.bare⟩
  have hl := F.len _ _ _ _ q
  have b := hb s us I.kIn (by rw [List.append_nil, ← r.length]; exact hl)
  rw [List.append_nil] at b
  refine wpAny_call (codeAny_mono (F.run A X.stack s H ⟨us, []⟩ us vs Q E0 room e0 b r q) fun o s' hq => ?_)
  cases o with
  | error e => exact False.elim hq
  | ok fl =>
    cases fl with
    | ret u => exact I.after hq
    | _ => exact False.elim hq
/-- == (neg: !=) of an instance of the class at C by its own __eq__, whatever stands on the right -/
def rOwnEq (K : PySem.W.Frag) (C : Addr) (sp : Sp) (neg : Bool) : R2 := fun x y H Q => ∃ a dx fs t, x = .ref a ∧ H a = some (.ins C dx fs) ∧ TyX K H y t ∧ PySem.W.notFirst K C t = true ∧
  sp [x, y] H (fun r H' => ∃ b : Bool, r = .bl b ∧ Q (.bl (if neg = true then !b else b)) H') E0
theorem op_eqI (F : FnOk X.prog X.w X.K X.mg X.base CX0 n f fd ps sp) (hb : L2.Binds X.K fd ps []) (hs : PySem.W.findIn X.K (.ref C) "__eq__" = some (some (.ref f))) (hf : PySem.W.isFn X.K (.ref f) = true) (hr : Room n X.A) :
    OpR X (compareOp .Eq) (rOwnEq X.K C sp false) := by
  intro pins s z H x y v u Q I rx ry h
  obtain ⟨a, dx, fs, t, rfl, ha, ty, nf, q⟩ := h
  cases (show v = Value.ref a from rx)
  obtain ⟨mA, J, _⟩ := ins_get I.hok ha
  obtain ⟨od, J, _⟩ := J.look
  obtain ⟨m, hF⟩ := I.fr
  obtain ⟨P, Z, p, _⟩ := kit_of I ry ty
  show wpAny _ X.A (richCompare .Eq (.ref a) u) _ _ s
  refine PySem.W.cmp_K (op := .Eq) (tb := t) hr.units0 hF I.ok.mod.kin J (Z.ty _ _ I.kIn p) nf hs hf ?_
  refine wpAny_mono (call_below F hb hr rfl I (show Vals [V.ref a, y] [Value.ref a, u] from .cons rfl (.cons ry .nil)) q) (fun w s' e => ?_) fun _ _ e => e
  obtain ⟨r, H', I', rr, b, rfl, qz⟩ := e
  cases (show w = Value.bool b from rr)
  exact ⟨.bl b, H', I', rfl, qz⟩
end
section
variable {M : Model} {A : Around} {E : Value → Shared → Prop} {s : Shared} {K : PySem.W.Frag} {x C : Addr} {ox : Obj} {od : Option Obj} {name : Str} {id : String}
theorem ifBound_B {args : List Value} {Q : Option Value → Shared → Prop} (Xk : K.In s.heap) (I : PySem.W.InstAt s.heap x ox C od) (hs : PySem.W.findIn K (.ref C) name = some (some (.builtin id)))
    (bd : ∀ self, bindSpecial (.builtin id) self = pure (.builtin id, [self])) (h : wpAny M A (call (.builtin id) (.ref x :: args)) (fun v => Q (some v)) E s) : wpAny M A (callSpecialIfBound? (.ref x) name args) Q E s := by
  simp only [callSpecialIfBound?, bindSpecialIfBound?]
  refine wpAny_holding (wpAny_bind (wpAny_bind (wpAny_bind (I.type.here ((PySem.W.looks_findIn Xk hs).here ?_)))))
  simp only [bd]
  refine wpAny_bind (wpAny_askSetting (wpAny_ite ?_))
  have done : wpAny M A (call (.builtin id) ([.ref x] ++ args) >>= fun v => pure (some v)) Q E s := wpAny_bind (wpAny_mono h (fun v s' q => wpAny_pure q) fun _ _ q => q)
  split
  · exact wpAny_bind (wpAny_pure (wpAny_pure done))
  · exact wpAny_tryCatch (wpAny_bind (wpAny_pure (wpAny_pure done)))
end
section
variable {prog : Program} {w : World} {A : Around} {E : Value → Shared → Prop} {s : Shared} {K : PySem.W.Frag} {x C f : Addr} {ox : Obj} {od : Option Obj} {u tb : Value}
theorem ne_below {Q : Value → Shared → Prop} (hu : A.units + 1 < cLine) (Xk : K.In s.heap) (I : PySem.W.InstAt s.heap x ox C od) (hb : PySem.W.Looks (model prog w) s.heap (typeOf u) tb) (hn : PySem.W.notFirst K C tb = true)
    (hs : PySem.W.findIn K (.ref C) "__ne__" = some (some (.builtin "object.__ne__"))) (he : PySem.W.findIn K (.ref C) "__eq__" = some (some (.ref f))) (hf : PySem.W.isFn K (.ref f) = true) (hm : PySem.W.mroIn K C (.type "object") = some true)
    (h : wpAny (model prog w) A.in1 (call (.ref f) [.ref x, u]) (fun v s' => ∃ b, v = .bool b ∧ Q (.bool (!b)) s') E s) : wpAny (model prog w) A (richCompare .NotEq (.ref x) u) Q E s := by
  have sub : PySem.W.Looks (model prog w) s.heap (isInstance (.ref x) (.type "object")) true := I.type.andThen (PySem.W.looks_mroIn Xk hm)
  have inner : wpAny (model prog w) A.in1 (Builtin.«object.__ne__» ⟨[.ref x, u], []⟩) (fun fin s' => ∃ v, fin = .done (.ret v) ∧ v ≠ .notImplemented ∧ Q v s') E s := by
    unfold Builtin.«object.__ne__»
    repeat (first
      | with_reducible refine wpAny_cRoomFor (show A.in1.units < cLine from hu) ?_
      | (refine wpAny_bind (m := callSpecialIfBound? (.ref x) (Str.ofString "__eq__") [u])
          (PySem.W.ifBound_K Xk I he hf (wpAny_mono h (fun r s' hr => by
            obtain ⟨b, rfl, hq⟩ := hr
            repeat (first | exact ⟨_, rfl, (fun e => nomatch e), hq⟩ | exact wpAny_pure ⟨_, rfl, (fun e => nomatch e), hq⟩ | (refine wpAny_bind (m := truthy (.bool _)) (wpAny_truthy_bool ?_)) | wp_step)) fun _ _ e => e)))
      | wp_step)
  have one : wpAny (model prog w) A (tryCompare (.ref x) (cmpInfo .NotEq).2.1 u) (fun r s' => ∃ v, r = some v ∧ Q v s') E s := by
    unfold tryCompare
    refine wpAny_bind (ifBound_B Xk I hs F.slot_object_ne.bind (wpAny_call (codeAny_call_builtin F.slot_object_ne.plain F.cmpEntry_ne
      (@PySem.W.check_slot (model prog w) _ _ s "object.__ne__" "object" "__ne__" (.ref x) [u] [] _ F.cmpKind_ne F.cmpSplit_ne sub (F.cmpArgs_ne _ _) (wpAny_mono inner (fun fin s' q => ?_) fun _ _ q => q)))))
    obtain ⟨v, rfl, nv, q⟩ := q
    cases v <;> first | exact absurd rfl nv | exact wpAny_pure ⟨_, rfl, q⟩ | exact ⟨_, rfl, wpAny_pure ⟨_, rfl, q⟩⟩
  unfold richCompare
  simp only [oneThing_ref]
  refine wpAny_holding (wpAny_bind (wpAny_cRoomFor (Nat.lt_of_succ_lt hu) ?_))
  refine wpAny_bind (I.type.here (wpAny_bind (hb.here ?_)))
  split
  · rename_i q
    have e : PySem.W.subIn K tb (.ref C) = some false := by
      rcases Bool.or_eq_true_iff.mp hn with e | e
      · rw [beq_iff_eq.mp e] at q
        simp at q
      · exact beq_iff_eq.mp e
    refine wpAny_bind ((PySem.W.looks_subIn Xk e).here ?_)
    simp only [Bool.false_eq_true, if_false]
    refine wpAny_bind (wpAny_mono one (fun r s' y => ?_) fun _ _ e => e)
    obtain ⟨v, rfl, hq⟩ := y
    exact wpAny_pure hq
  · refine wpAny_bind (wpAny_pure ?_)
    simp only [Bool.false_eq_true, if_false]
    refine wpAny_bind (wpAny_mono one (fun r s' y => ?_) fun _ _ e => e)
    obtain ⟨v, rfl, hq⟩ := y
    exact wpAny_pure hq
end
section
variable {X : Cx} {n : Nat} {f C : Addr} {fd : FuncData} {ps : List Str} {sp : Sp}
theorem op_neI (F : FnOk X.prog X.w X.K X.mg X.base CX0 n f fd ps sp) (hb : L2.Binds X.K fd ps []) (hs : PySem.W.findIn X.K (.ref C) "__ne__" = some (some (.builtin "object.__ne__"))) (he : PySem.W.findIn X.K (.ref C) "__eq__" = some (some (.ref f)))
    (hf : PySem.W.isFn X.K (.ref f) = true) (hm : PySem.W.mroIn X.K C (.type "object") = some true) (hr : Room (n + 1) X.A) : OpR X (compareOp .NotEq) (rOwnEq X.K C sp true) := by
  intro pins s z H x y v u Q I rx ry h
  obtain ⟨a, dx, fs, t, rfl, ha, ty, nf, q⟩ := h
  cases (show v = Value.ref a from rx)
  obtain ⟨mA, J, _⟩ := ins_get I.hok ha
  obtain ⟨od, J, _⟩ := J.look
  obtain ⟨P, Z, p, _⟩ := kit_of I ry ty
  show wpAny _ X.A (richCompare .NotEq (.ref a) u) _ _ s
  refine ne_below (by have e := hr.un; omega) I.kIn J (Z.ty _ _ I.kIn p) nf hs he hf hm ?_
  refine wpAny_mono (call_below F hb hr.in1 rfl I (show Vals [V.ref a, y] [Value.ref a, u] from .cons rfl (.cons ry .nil)) q) (fun w s' e => ?_) fun _ _ e => e
  obtain ⟨r, H', I', rr, b, rfl, qz⟩ := e
  cases (show w = Value.bool b from rr)
  exact ⟨b, rfl, .bl (!b), H', I', rfl, qz⟩
end
/-! ### sorted(t), sum(t) -/
section
variable {prog : Program} {w : World} {A : Around} {E : Value → Shared → Prop} {s : Shared} {t : Addr}
theorem sorted_tup {vs : List Value} {ns : List Int} {Q : Value → Shared → Prop} (ht : s.heap.IsTuple t vs.toArray) (hi : IntsAre vs ns) (hz : vs.length ≤ sizeLine)
    (h : ∀ (h1 h' : Heap) (out : Array Value) (ns' : List Int) (e : Nat), (∀ b o, s.heap.get? b = some o → h1.get? b = some o) → (∀ b o, h1.get? b = some o → h'.get? b = some o) → h'.get? h1.objs.size = some (seqObj "list" out e) → IntsAre out.toList ns' → ns'.Perm ns → ns'.Pairwise (· ≤ ·) → Q (.ref h1.objs.size) { s with heap := h' }) :
    wpAny (model prog w) A (call (.builtin "sorted") [.ref t]) Q E s := by
  obtain ⟨o, ho, hc, n, hd⟩ := ht
  refine Calls.call_function_entry kind_sorted plain_sorted entry_sorted (args_sorted1 _) ?_
  unfold Builtin.«sorted»
  refine wpAny_bind (m := checkCount "sorted" 1 1 _) (wpAny_pure ?_)
  refine wpAny_bind (wpAny_collect_seq t (.inr rfl) ho hc hd (fun h1 kp => ?_) (by simpa using hz))
  have e1 : vs.toArray.toList = vs := by simp
  rw [e1]
  refine wpAny_bind (wpAny_newList ?_)
  have at0 : (h1.push (seqObj "list" vs.toArray 0)).get? h1.objs.size = some (seqObj "list" vs.toArray 0) := Heap.get?_push_size _ rfl
  show wpAny _ _ _ _ _ { s with heap := h1.push (seqObj "list" vs.toArray 0) }
  refine wpAny_bind (wpAny_holding (wpAny_call_entry slot_list_sort ⟨_, at0, rfl⟩ entry_list_sort (list_sort_treeAny at0 hi hz fun out ns' a1 a2 a3 => ⟨_, rfl, ?_⟩) (args_list_sort _)))
  obtain ⟨e, he⟩ := sortedHeap_at (out := out) at0
  exact wpAny_pure ⟨_, rfl, h h1 _ out ns' e kp (fun b u hb => by
    have lt := Heap.lt_size hb
    rw [sortedHeap_old (Nat.ne_of_lt lt) (by rw [size_push']; exact Nat.lt_succ_of_lt lt)]
    exact Heap.get?_push_of_some _ hb) he a1 a2 a3⟩
theorem sum_tup {its : List Value} {ns : List Int} {Q : Value → Shared → Prop} (hh : A.handled = none) (ht : s.heap.IsTuple t its.toArray) (hi : IntsAre its ns)
    (h : ∀ h' tk t', (∀ b o, s.heap.get? b = some o → h'.get? b = some o) → Q (.int ns.sum t') { s with heap := h', toks := tk }) : wpAny (model prog w) A (call (.builtin "sum") [.ref t]) Q E s := by
  obtain ⟨xs, e⟩ := hi.allInts.items
  have hn : numsOf (intItems xs).toList = ns := by rw [← e]; exact hi.numsOf
  rw [nums_intItems] at hn
  rw [e] at ht
  have lt : t < s.heap.objs.size := by obtain ⟨_, q, _⟩ := ht; exact Heap.lt_size q
  refine call_sum_walkG (wpAny_pyIter_tuple ht ?_)
  refine ⟨_, _, _, _, _, _, numAt xs, rfl, Walks.tuple (A := A.in1) hh _ t (Nat.ne_of_lt lt) (intItems xs), ⟨⟨_, Heap.get?_push_size _ rfl, rfl, rfl⟩, ht.push _⟩, fun b hb => ?_, (fun _ _ => intItems_at), fun h' tk t' hk => ?_⟩
  · show b < (s.heap.push _).objs.size
    rw [Heap.size_push]
    rcases List.mem_cons.mp hb with rfl | hb
    · exact Nat.lt_succ_self _
    · rw [List.mem_singleton.mp hb]
      exact Nat.lt_succ_of_lt lt
  · have old : ∀ b o, s.heap.get? b = some o → h'.get? b = some o := fun b o q => by
      refine hk b o (fun hm => ?_) (Heap.get?_push_of_some _ q)
      rw [List.mem_singleton.mp hm] at q
      exact absurd (Heap.lt_size q) (Nat.lt_irrefl _)
    have r := h h' tk t' old
    have e2 : (intItems xs).size = xs.size := by simp [intItems]
    rw [e2, preSum_eq, List.take_of_length_le (by simp), hn]
    exact r
end
/-- a list or a tuple -/
def SqE (K : PySem.W.Frag) (H : Hp) (a : Addr) (xs : List V) : Prop := SqL K H a xs ∨ SqT K H a xs
theorem SqE.same {K : PySem.W.Frag} {H H' : Hp} {a : Addr} {xs : List V} (h : SqE K H a xs) (s : Same H H') : SqE K H' a xs := by
  rcases h with h | (h | ⟨o, h⟩) | h
  · exact .inl (s.seq h)
  · exact .inr (.inl (.inl (s _ _ h)))
  · exact .inr (.inl (.inr ⟨o, s _ _ h⟩))
  · exact .inr (.inr h)
section
variable {X : Cx}
/-- sorted of ints, a list or a tuple, of any length -/
def rSortedE (K : PySem.W.Frag) : List V → Hp → VK → Prop := fun vs H Q => ∃ (a : Addr) (ns : List Int), vs = [V.ref a] ∧ SqE K H a (ns.map V.int) ∧
  ∀ (ns' : List Int) (p : Addr), ns'.Perm ns → ns'.Pairwise (· ≤ ·) → H p = none → Q (.ref p) (upd H p (.lst (ns'.map V.int)))
theorem cr_sortedE : CallR X (.builtin "sorted") (rSortedE X.K) := by
  intro pins s z H vs us Q I r h
  obtain ⟨a, ns, rfl, hs, q⟩ := h
  rw [Vals.ref1 r]
  rcases hs with hs | hs
  · obtain ⟨its, rv, hl, hz⟩ := I.list hs
    have hi := rv.ints
    have ln := rv.length
    refine PyProof.Rows.sorted_intsAny hl.isList hi (by omega) fun out ns' h1 h2 h3 => ?_
    obtain ⟨ep, he⟩ := PyProof.Rows.sortedAll_at s.heap its out
    have hlen : (ns'.map V.int).length ≤ sizeLine := by rw [List.length_map, h2.length_eq]; rw [List.length_map] at hz; exact hz
    exact ⟨.ref _, upd H (s.heap.objs.size + 1) (.lst (ns'.map V.int)), I.laid (t' := s.toks) (fun _ _ => PyProof.Rows.sortedAll_old) (Nat.le_succ _) ⟨hlen, out.toList, ep, vals_of_ints h1, he⟩, rfl, q ns' _ h2 h3 (I.hok.fresh (Nat.le_succ _))⟩
  · obtain ⟨its, rv, hl, hz⟩ := I.tuple hs
    have hi := rv.ints
    have ln := rv.length
    refine sorted_tup (show s.heap.IsTuple a its.toArray from hl) hi (by omega) fun h1 h' out ns' e k1 k2 at_ i1 i2 i3 => ?_
    have hlen : (ns'.map V.int).length ≤ sizeLine := by rw [List.length_map, i2.length_eq]; rw [List.length_map] at hz; exact hz
    have I1 : Inv X pins z H { s with heap := h1 } := I.kept (t' := s.toks) k1
    exact ⟨.ref _, upd H h1.objs.size (.lst (ns'.map V.int)), I1.laid (t' := s.toks) k2 (Nat.le_refl _) ⟨hlen, out.toList, e, vals_of_ints i1, at_⟩, rfl, q ns' _ i2 i3 (I1.hok.fresh (Nat.le_refl _))⟩
def rSumE (K : PySem.W.Frag) : List V → Hp → VK → Prop := fun vs H Q => ∃ (a : Addr) (ns : List Int), vs = [V.ref a] ∧ SqE K H a (ns.map V.int) ∧ Q (.int ns.sum) H
theorem cr_sumE (hc : X.calm = true) : CallR X (.builtin "sum") (rSumE X.K) := by
  intro pins s z H vs us Q I r h
  obtain ⟨a, ns, rfl, hs, q⟩ := h
  rcases hs with hs | hs
  · exact cr_sum hc pins s z H _ us Q I r ⟨a, ns, rfl, hs, q⟩
  · obtain ⟨its, rv, hl, _⟩ := I.tuple hs
    rw [Vals.ref1 r]
    exact sum_tup (I.ok.hd hc) (show s.heap.IsTuple a its.toArray from hl) rv.ints fun h' tk t' hk => ⟨.int _, H, I.kept hk, ⟨_, rfl⟩, q⟩
end
end Gen
namespace Gen
open PySem PySem.Spec PyProof.Rows L2
/-- an own class as the top has written it -/
structure Own (K : PySem.W.Frag) (mg : Str → Option Value) (x : Str) (C : Addr) : Prop where
  gC : mg x = some (.ref C)
  cl : Cls K C
  mkI : PySem.W.makesIn K C = true
  kp : PySem.W.keepIn K (.ref C) = true
  ha : PySem.W.findIn K (.ref C) "__class__" = some (some (.builtin "object.__class__"))
  hn : PySem.W.specialIn K (.builtin "object.__class__") "__get__" = some (some (.builtin "getset_descriptor.__get__"))
  ht : PySem.W.takesIn K (.builtin "object.__class__") = some true
  hm : PySem.W.mroIn K C (.type "object") = some true
  ci : PySem.W.isClsIn K C = true
  ct : PySem.W.typeIn K (.ref C) = some (.type "type")
  ne : PySem.W.findIn K (.ref C) "__ne__" = some (some (.builtin "object.__ne__"))
def OwnI (K : PySem.W.Frag) (qual : Str) (st : Stmt) (ps : List Str) (C : Addr) : Prop := ∃ f fd, Fun K "__init__" qual st f fd ∧ Binds K fd ps [] ∧ Mk K C f
def OwnE (K : PySem.W.Frag) (qual : Str) (st : Stmt) (ps : List Str) (C : Addr) : Prop :=
  ∃ f fd, Fun K "__eq__" qual st f fd ∧ Binds K fd ps [] ∧ PySem.W.findIn K (.ref C) "__eq__" = some (some (.ref f)) ∧ PySem.W.isFn K (.ref f) = true
section
variable {K : PySem.W.Frag} {mg : Str → Option Value} {x : Str} {C : Addr} {H : Hp}
theorem Own.ty (o : Own K mg x C) {a dx : Addr} {fs : List (Str × V)} (h : H a = some (.ins C dx fs)) : TyX K H (.ref a) (.ref C) := .base (.ins h o.cl o.ha o.hn o.ht o.hm)
theorem nf_self : PySem.W.notFirst K C (.ref C) = true := by
  unfold PySem.W.notFirst
  rw [show (Value.ref C == Value.ref C) = true from beq_self_eq_true _]
  rfl
theorem nf_tup : PySem.W.notFirst K C (.type "tuple") = true := rfl
theorem nf_non : PySem.W.notFirst K C (.type "NoneType") = true := rfl
theorem Own.kit_self (o : Own K mg x C) : PySem.W.kitOne K (.ref C) (.ref C) = some true := by
  unfold PySem.W.kitOne
  rw [if_pos (beq_self_eq_true _)]
theorem Own.kit_ty (o : Own K mg x C) {T : String} (h : PySem.W.subIn K (.type T) (.ref C) = some false) : PySem.W.kitOne K (.type T) (.ref C) = some false := by
  have e : ((PySem.W.clsIn K C).isSome && PySem.W.typeIn K (.ref C) == some (.type "type")) = true := by
    have a : (PySem.W.clsIn K C).isSome = true := o.ci
    rw [a, o.ct]
    rfl
  show (if _ then _ else (if _ then _ else none)) = some false
  rw [if_neg (fun z => by cases z), if_pos e]
  exact h
theorem sub_tup : PySem.W.subIn K (.type "tuple") (.ref C) = some false := rfl
theorem sub_non : PySem.W.subIn K (.type "NoneType") (.ref C) = some false := rfl
/-- isinstance(x, C) of an instance, a tuple, None -/
theorem isi_self (o : Own K mg x C) {a dx : Addr} {fs : List (Str × V)} {Q : VK} (h : H a = some (.ins C dx fs)) (q : Q (.bl true) H) : rIsi K [.ref a, .ref C] H Q :=
  ⟨_, _, _, _, true, rfl, .own _, o.ty h, o.kit_self, q⟩
theorem isi_tup_own (o : Own K mg x C) {a : Addr} {xs : List V} {Q : VK} (h : H a = some (.tup xs)) (q : Q (.bl false) H) : rIsi K [.ref a, .ref C] H Q :=
  ⟨_, _, _, _, false, rfl, .own _, .base (.tup h), o.kit_ty sub_tup, q⟩
theorem isi_non_own (o : Own K mg x C) {Q : VK} (q : Q (.bl false) H) : rIsi K [.non, .ref C] H Q :=
  ⟨_, _, _, _, false, rfl, .own _, .base .non, o.kit_ty sub_non, q⟩
/-- how an instance with two attributes is made -/
theorem made2 {f g : Str} {C a dx : Addr} {x y : V} {H : Hp} (ha : H a = none) (hd : H dx = none) (n : dx ≠ a) : Same H (upd (upd (upd H dx (.own a)) a (.ins C dx [])) a (.ins C dx [(f, x), (g, y)])) := fun b o e => by
  rw [upd_ne (ne_of_none e ha), upd_ne (ne_of_none e ha), upd_ne (ne_of_none e hd)]
  exact e
theorem upd_at {a : Addr} {u : HO} : upd H a u a = some u := upd_same
end
end Gen
set_option Elab.async false
set_option linter.all false
set_option maxRecDepth 100000
set_option maxHeartbeats 4000000

/-! ### coins that serve, greatest first -/
namespace Gen
open PySem PySem.Spec PyProof.Rows L2
section
variable {X : Cx} {n : Nat} {f C : Addr} {fd : FuncData} {ps : List Str} {sp : Sp}
/-- the same, K named (within a comprehension) -/
theorem op_eqK {K : PySem.W.Frag} (hK : X.K = K) (F : FnOk X.prog X.w X.K X.mg X.base CX0 n f fd ps sp) (hb : L2.Binds X.K fd ps []) (hs : PySem.W.findIn X.K (.ref C) "__eq__" = some (some (.ref f))) (hf : PySem.W.isFn X.K (.ref f) = true) (hr : Room n X.A) :
    OpR X (compareOp .Eq) (rOwnEq K C sp false) := hK ▸ op_eqI F hb hs hf hr
theorem op_neK {K : PySem.W.Frag} (hK : X.K = K) (F : FnOk X.prog X.w X.K X.mg X.base CX0 n f fd ps sp) (hb : L2.Binds X.K fd ps []) (hs : PySem.W.findIn X.K (.ref C) "__ne__" = some (some (.builtin "object.__ne__"))) (he : PySem.W.findIn X.K (.ref C) "__eq__" = some (some (.ref f)))
    (hf : PySem.W.isFn X.K (.ref f) = true) (hm : PySem.W.mroIn X.K C (.type "object") = some true) (hr : Room (n + 1) X.A) : OpR X (compareOp .NotEq) (rOwnEq K C sp true) := hK ▸ op_neI F hb hs he hf hm hr
end
def Srv (p : Int) : Int → List Int → Prop
  | _, [] => True
  | r, c :: cs => c ≤ room p r ∧ Srv p (r + c) cs
def insI (c : Int) : List Int → List Int
  | [] => [c]
  | d :: ds => if c ≤ d then c :: d :: ds else d :: insI c ds
theorem insI_perm (c : Int) : ∀ l : List Int, (insI c l).Perm (c :: l)
  | [] => .refl _
  | d :: ds => by
    unfold insI
    split
    · exact .refl _
    · exact ((insI_perm c ds).cons d).trans (List.Perm.swap c d ds)
theorem insI_mem {c x : Int} {l : List Int} (h : x ∈ insI c l) : x = c ∨ x ∈ l := List.mem_cons.mp ((insI_perm c l).subset h)
theorem insI_sorted {c : Int} : ∀ {l : List Int}, l.Pairwise (· ≤ ·) → (insI c l).Pairwise (· ≤ ·)
  | [], _ => List.pairwise_cons.mpr ⟨fun _ h => absurd h List.not_mem_nil, List.Pairwise.nil⟩
  | d :: ds, h => by
    obtain ⟨h1, h2⟩ := List.pairwise_cons.mp h
    unfold insI
    split
    · rename_i e
      refine List.pairwise_cons.mpr ⟨fun x hx => ?_, h⟩
      rcases List.mem_cons.mp hx with rfl | hx
      · exact e
      · exact Int.le_trans e (h1 x hx)
    · rename_i e
      refine List.pairwise_cons.mpr ⟨fun x hx => ?_, insI_sorted h2⟩
      rcases insI_mem hx with rfl | hx
      · omega
      · exact h1 x hx
theorem room_mono {p r s : Int} (hp : 2 ≤ p) (h : r ≤ s) : room p r ≤ room p s := by
  unfold room
  have := Int.ediv_le_ediv (c := p - 1) (by omega) h
  omega
theorem Srv.mono {p : Int} (hp : 2 ≤ p) : ∀ {l : List Int} {r s : Int}, r ≤ s → Srv p r l → Srv p s l
  | [], _, _, _, _ => True.intro
  | c :: cs, r, s, h, ⟨h1, h2⟩ => ⟨Int.le_trans h1 (room_mono hp h), Srv.mono hp (by omega) h2⟩
theorem Srv.ins {p c : Int} (hp : 2 ≤ p) (c0 : 0 ≤ c) : ∀ {l : List Int} {r : Int}, Srv p r l → c ≤ room p (r + l.sum) → Srv p r (insI c l)
  | [], r, _, h => by
    rw [List.sum_nil, Int.add_zero] at h
    exact ⟨h, True.intro⟩
  | d :: ds, r, ⟨h1, h2⟩, h => by
    unfold insI
    split
    · rename_i e
      refine ⟨by omega, Int.le_trans h1 (room_mono hp (by omega)), ?_⟩
      exact Srv.mono hp (by omega) h2
    · rw [List.sum_cons, ← Int.add_assoc] at h
      exact ⟨h1, Srv.ins hp c0 h2 h⟩
theorem room_pos {p r : Int} (hp : 2 ≤ p) (r0 : 0 ≤ r) : 1 ≤ room p r := by
  unfold room
  have := Int.ediv_nonneg r0 (show 0 ≤ p - 1 by omega)
  omega
theorem grow_front {p : Int} : ∀ (k : Nat) (a : Int), grow p (k + 1) a = grow p k (a + room p a)
  | 0, _ => rfl
  | k + 1, a => by
    show grow p (k + 1) a + room p (grow p (k + 1) a) = grow p k (a + room p a) + room p (grow p k (a + room p a))
    rw [grow_front k a]
theorem grow_add {p : Int} (hp : 2 ≤ p) : ∀ (k : Nat) {a : Int}, 0 ≤ a → a + k ≤ grow p k a
  | 0, a, _ => by show a + (0 : Nat) ≤ a; omega
  | k + 1, a, h => by
    have h1 := grow_add hp k h
    have h2 := room_pos hp (show 0 ≤ grow p k a by omega)
    show a + ((k + 1 : Nat) : Int) ≤ grow p k a + room p (grow p k a)
    omega
/-- a step of the greatest coins first -/
theorem coin_step {p t l c : Int} {k : Nat} (hp : 2 ≤ p) (h1 : (k : Int) + 1 ≤ l) (h2 : l ≤ t) (h3 : t ≤ grow p (k + 1) (t - l)) (hc : c = if l - k < room p (t - l) then l - k else room p (t - l)) :
    1 ≤ c ∧ c ≤ room p (t - l) ∧ (k : Int) ≤ l - c ∧ t ≤ grow p k (t - (l - c)) := by
  have r0 := room_pos hp (show 0 ≤ t - l by omega)
  by_cases e : l - k < room p (t - l)
  · rw [if_pos e] at hc
    have g := grow_add hp k (show 0 ≤ t - (l - c) by omega)
    refine ⟨by omega, by omega, by omega, by omega⟩
  · rw [if_neg e] at hc
    rw [grow_front] at h3
    have e2 : t - (l - c) = t - l + room p (t - l) := by omega
    rw [e2]
    exact ⟨by omega, by omega, by omega, h3⟩
theorem srv_up {p c r : Int} (p0 : 2 ≤ p) (p1 : p ≤ 5) (h : c ≤ room p r) : ¬ (r + c + p - 1) / p < c := by
  unfold room at h
  have e : p = 2 ∨ p = 3 ∨ p = 4 ∨ p = 5 := by omega
  rcases e with rfl | rfl | rfl | rfl <;> omega
theorem sum_perm {a b : List Int} (h : a.Perm b) : a.sum = b.sum := by
  induction h with
  | nil => rfl
  | cons x _ ih => rw [List.sum_cons, List.sum_cons, ih]
  | swap x y l => simp only [List.sum_cons]; omega
  | trans _ _ h1 h2 => exact h1.trans h2
/-- coins so far, in some order: sorted they serve -/
structure Good (p t l : Int) (ns : List Int) : Prop where
  pos : ∀ n, n ∈ ns → 1 ≤ n
  sum : ns.sum = t - l
  srt : ∃ ms : List Int, ms.Perm ns ∧ ms.Pairwise (· ≤ ·) ∧ Srv p 0 ms
theorem Good.nil {p t : Int} : Good p t t [] := ⟨fun _ h => absurd h List.not_mem_nil, by rw [List.sum_nil]; omega, [], .refl _, List.Pairwise.nil, True.intro⟩
theorem Good.put {p t l c : Int} {ns : List Int} (hp : 2 ≤ p) (g : Good p t l ns) (c1 : 1 ≤ c) (c2 : c ≤ room p (t - l)) : Good p t (l - c) (ns ++ [c]) := by
  obtain ⟨ms, h1, h2, h3⟩ := g.srt
  have es : ms.sum = t - l := by rw [sum_perm h1]; exact g.sum
  refine ⟨fun n hn => ?_, by rw [List.sum_append, g.sum]; simp; omega, insI c ms, (insI_perm c ms).trans ((h1.cons c).trans (List.perm_append_comm (l₁ := [c]))), insI_sorted h2, Srv.ins hp (by omega) h3 (by rw [es]; rwa [Int.zero_add])⟩
  rcases List.mem_append.mp hn with h | h
  · exact g.pos n h
  · rw [List.mem_singleton.mp h]; exact c1
theorem Good.out {p t l : Int} {ns ms : List Int} (g : Good p t l ns) (h1 : ms.Perm ns) (h2 : ms.Pairwise (· ≤ ·)) : Srv p 0 ms := by
  obtain ⟨ks, k1, k2, k3⟩ := g.srt
  rw [PySem.W.os_sorted_one (h1.trans k1.symm) h2 k2]
  exact k3
theorem dp_ints {K : PySem.W.Frag} {H : Hp} : ∀ ns : List Int, DpAll K H (ns.map V.int) (ns.map PyData.int)
  | [] => .nil
  | n :: ns => .cons (.int n) (dp_ints ns)
theorem eqv_ints : ∀ ns : List Int, PyData.eqvAll (ns.map PyData.int) (ns.map PyData.int) = true
  | [] => by simp [PyData.eqvAll]
  | n :: ns => by simp [PyData.eqvAll, PyData.eqv, eqv_ints ns]
theorem eq_ints {K : PySem.W.Frag} {H : Hp} {a b : Addr} {ns : List Int} {Q : VK} (ha : SqL K H a (ns.map V.int)) (hb : SqL K H b (ns.map V.int)) (q : Q (.bl true) H) : rEqD K (.ref a) (.ref b) H Q := by
  refine ⟨_, _, .lst ha (dp_ints ns), .lst hb (dp_ints ns), PySem.W.shaped_ints ns, PySem.W.shaped_ints ns, ?_⟩
  rw [show PyData.eqv (.list (ns.map PyData.int)) (.list (ns.map PyData.int)) = true by simp only [PyData.eqv]; exact eqv_ints ns]
  exact q
theorem ne_ints {K : PySem.W.Frag} {H : Hp} {a b : Addr} {ns : List Int} {Q : VK} (ha : SqL K H a (ns.map V.int)) (hb : SqL K H b (ns.map V.int)) (q : Q (.bl false) H) : rNeD K (.ref a) (.ref b) H Q := by
  refine ⟨_, _, .lst ha (dp_ints ns), .lst hb (dp_ints ns), PySem.W.shaped_ints ns, PySem.W.shaped_ints ns, ?_⟩
  rw [show PyData.eqv (.list (ns.map PyData.int)) (.list (ns.map PyData.int)) = true by simp only [PyData.eqv]; exact eqv_ints ns]
  exact q
theorem Srv.take {p : Int} : ∀ {ns : List Int} {r c : Int} {i : Nat}, Srv p r ns → ns[i]? = some c → c ≤ room p (r + (ns.take i).sum)
  | d :: ds, r, c, 0, h, e => by
    cases e
    rw [List.take_zero, List.sum_nil, Int.add_zero]
    exact h.1
  | d :: ds, r, c, i + 1, h, e => by
    rw [List.take_succ_cons, List.sum_cons, ← Int.add_assoc]
    exact Srv.take h.2 e
end Gen
set_option Elab.async false
set_option linter.all false
set_option maxRecDepth 100000
set_option maxHeartbeats 4000000
/-! ## enumerate over a list or a tuple -/
namespace Gen
open PySem PySem.Spec PyProof.Rows L2
/-- the object that enumerate(v) is, over the iterator that stands at i -/
abbrev enO (i : Addr) : Obj := { cls := .type "enumerate", data := .fields #[.none, .bool false, .ref i, rawInt 0, .none, .none] }
theorem meets_enum_newB {t : Addr} {o : Obj} {HH : Heap → Prop} (B : Begins (.ref t) o HH) :
    Meets (Builtin.«enumerate.__new__» ⟨[.type "enumerate", .ref t], []⟩) (fun _ R s => (HH s.heap ∧ ∃ u, s.heap.get? t = some u) ∧ R (.ok (.ret (.ref (s.heap.push o).objs.size))) { s with heap := (s.heap.push o).push (enO s.heap.objs.size) }) :=
  .of_wp fun prog w A R s h => by
    obtain ⟨hp, g, d, tk, os⟩ := s
    obtain ⟨⟨hh, u, hu⟩, h⟩ := h
    have kn := sub_enumerate
    have go : ∀ {A' : Around} {E' : Value → Shared → Prop} {Q' : Value → Shared → Prop}, Q' (.ref hp.objs.size) ⟨hp.push o, g, d, tk, os⟩ → wpAny (model prog w) A' (pyIter (.ref t)) Q' E' ⟨hp, g, d, tk, os⟩ := fun q => B.iter prog w _ _ ⟨hp, g, d, tk, os⟩ _ hh q
    wp_walk using AutoSeq1.wpAny_loadPart' hu
    refine wpAny_stack_any fun z => wpAny_pure ?_
    split
    · rename_i c _ _ _ _ _
      cases (c == Value.type "enumerate") <;>
      · wp_walk using AutoSeq1.wpAny_loadPart' hu, go
        exact ⟨_, rfl, h⟩
    · wp_walk using AutoSeq1.wpAny_loadPart' hu, go
      exact ⟨_, rfl, h⟩
section
variable {prog : Program} {w : World} {A : Around} {E : Value → Shared → Prop} {s : Shared}
theorem call_enum_tup {t : Addr} {items : Array Value} {Q : Value → Shared → Prop} (ht : s.heap.IsTuple t items)
    (h : ∀ h', IsEnum h' (s.heap.objs.size + 1) s.heap.objs.size 0 .none → h'.IsTupleIter s.heap.objs.size t 0 → (∀ b o, s.heap.get? b = some o → h'.get? b = some o) → Q (.ref (s.heap.objs.size + 1)) { s with heap := h' }) :
    wpAny (model prog w) A (call (.type "enumerate") [.ref t]) Q E s := by
  have ex : ∃ u, s.heap.get? t = some u := by obtain ⟨u, hu, _⟩ := ht; exact ⟨u, hu⟩
  refine callType_new F.called_enumerate (by decide) (F.typeCall_enumerate_1 _) (F.newCall_enumerate_1 _) (fun obj => F.args_object_init_2 obj _) F.entry_enumerate_new (meets_enum_newB (begins_tuple t items)) ⟨⟨ht, ex⟩, ?_⟩
  have z : ∀ ob : Obj, (s.heap.push ob).objs.size = s.heap.objs.size + 1 := fun ob => Heap.size_push ..
  show _ ∧ _
  rw [z]
  have he := Heap.get?_push_size (s.heap.push { cls := .type "tuple_iterator", data := .fields #[.ref t, .int 0 0] }) (o := enO s.heap.objs.size) rfl
  rw [z] at he
  exact ⟨⟨_, he, rfl⟩, h _ he ⟨_, Heap.get?_push_of_some _ (Heap.get?_push_size _ rfl), rfl, rfl⟩ fun b o x => Heap.get?_push_of_some _ (Heap.get?_push_of_some _ x)⟩
end
/-- the tuple at a as it stands, each of its things in a new pair with its place -/
def Itp (K : PySem.W.Frag) (a : Addr) : It where
  go i H := ∃ (xs : List V) (x : V), SqT K H a xs ∧ xs[i]? = some x
  yld i H v H' := ∃ T x, v = .ref T ∧ H T = none ∧ H' = upd H T (.tup [.int (i : Nat), x]) ∧ ∀ xs, SqT K H a xs → xs[i]? = some x
  stop i H := ∃ xs : List V, SqT K H a xs ∧ xs.length ≤ i
theorem draws_end {P : Program} {w : World} {A : Around} (hh : A.handled = none) (it t : Addr) (items : Array Value) (i : Nat) (hi : items.size ≤ i) :
    Draws P w A it [it, t] i (fun _ _ => True) (fun j h => j = i ∧ h.IsTupleIter it t j ∧ h.IsTuple t items) where
  live := fun _ _ st => let ⟨ob, hob, _⟩ := st.2.1; ⟨ob, hob⟩
  frame := fun _ _ _ st hk => ⟨st.1, st.2.1.at fun ob q => hk it (by simp) ob q, st.2.2.at fun ob q => hk t (by simp) ob q⟩
  item := fun j s Q E hj st _ => absurd st.1 (Nat.ne_of_lt hj)
  done := fun s Q E st hE => wpAny_nextOf_tuple_end hh st.2.1 st.2.2 (by simp [hi]) hE
theorem turn_enumT {P : Program} {w : World} {K : PySem.W.Frag} {xs0 : List Expr} {k0 : Nat} {ps0 : Pos} (a e it : Addr) :
    Turn P w K (.Tuple xs0 k0 ps0) (Itp K a) [e, it] e (fun i h => (∃ last, IsEnum h e it ((i : Nat) : Int) last) ∧ h.IsTupleIter it a i ∧ e ≠ it) where
  mem := List.mem_cons_self
  obj := by
    rintro i h ⟨⟨last, q1⟩, ⟨ob, q2, _, q3⟩, _⟩ b hb
    rcases List.mem_cons.mp hb with rfl | z
    · exact ⟨_, q1, fun v n => nomatch n⟩
    · rw [List.mem_singleton] at z
      exact ⟨ob, z ▸ q2, fun v n => by rw [q3] at n; cases n⟩
  keep := by
    rintro i h h' ⟨⟨last, q1⟩, q2, q3⟩ k
    exact ⟨⟨last, k e (by simp) _ q1⟩, q2.at fun ob q => k it (by simp) ob q, q3⟩
  item := by
    intro X hP hw hK hc i pins s z H E I hf st hg
    subst hP hw hK
    obtain ⟨⟨last, q1⟩, q2, ne⟩ := st
    obtain ⟨xs, x, hq, hx⟩ := hg
    obtain ⟨its, rv, pt, _⟩ := I.tuple hq
    obtain ⟨u, hu, ru⟩ := rv.get hx
    have lte : e < s.heap.objs.size := Heap.lt_size q1
    have lti : it < s.heap.objs.size := by obtain ⟨_, q, _⟩ := q2; exact Heap.lt_size q
    have ht : s.heap.IsTuple a its.toArray := pt
    have nai : a ≠ it := by
      obtain ⟨o1, g1, g2, _⟩ := ht
      obtain ⟨o2, g3, g4, _⟩ := q2
      intro y
      rw [y, g3] at g1
      cases g1
      rw [g4] at g2
      exact absurd g2 (by decide)
    have nea : e ≠ a := by
      obtain ⟨o1, g1, g2, _⟩ := ht
      intro y
      rw [← y, q1] at g1
      cases g1
      exact absurd (show Value.type "enumerate" = Value.type "tuple" from g2) (by decide)
    have hlt : i < its.toArray.size := by
      have l1 := (List.getElem?_eq_some_iff.mp hu).1
      simpa using l1
    refine wpAny_pyNext_enum_itemD (Draws.tuple (A := X.A.in1) (I.ok.hd hc) it a nai its.toArray) q1 ⟨q2, ht⟩ hlt ne (by simp [ne, nea]) fun y h' tk hy ho st' hT _ hk => ?_
    have ey : y = u := by
      have hy' : its.toArray[i]? = some y := hy
      rw [List.getElem?_toArray, hu] at hy'
      exact (Option.some.inj hy').symm
    subst ey
    refine ⟨_, rfl, wpAny_letOwnedTupleGo_enum (s := { s with heap := h', toks := tk + 1 }) ho fun h2 he2 sb => ?_⟩
    have hT2 : h2.get? s.heap.objs.size = some { cls := .type "tuple", data := .seq #[.int i tk, y] } := (sb.2 _ (Nat.ne_of_gt lte)).trans hT
    have new : ObjOk X.prog X.w (upd H s.heap.objs.size (.tup [.int (i : Nat), x])) h2 s.heap.objs.size (.tup [.int (i : Nat), x]) :=
      ⟨(show 2 ≤ sizeLine by decide), [.int i tk, y], .cons ⟨_, rfl⟩ (.cons ru .nil), ⟨_, hT2, rfl, _, rfl⟩⟩
    have old : ∀ b ob, b ∉ [e, it] → s.heap.get? b = some ob → h2.get? b = some ob := fun b ob hb q =>
      (sb.2 b fun n => hb (by simp [n])).trans (hk b ob (fun n => hb (by simp [n])) (fun n => hb (by simp [n])) q)
    have J := I.turnedNew (t' := tk + 1) (ch := [e, it]) old hf (Nat.le_refl _) new
    refine ⟨.ref s.heap.objs.size, _, J, rfl, ⟨_, x, rfl, I.hok.fresh (Nat.le_refl _), rfl, fun ys hy2 => by rw [I.tuple_inj hy2 hq]; exact hx⟩, ⟨⟨y, ?_⟩, st'.1.at fun ob q => (sb.2 it ne.symm).trans q, ne⟩, fun b hb => ?_⟩
    · have e1 : ((i + 1 : Nat) : Int) = (i : Int) + 1 := by omega
      exact e1 ▸ he2
    · have lb : b < s.heap.objs.size := by
        rcases List.mem_cons.mp hb with n | n
        · exact n ▸ lte
        · rw [List.mem_singleton.mp n]
          exact lti
      rw [upd_ne (Nat.ne_of_lt lb)]
      exact (hf b hb).1
  done := by
    intro X hP hw hK hc i pins s z H E I hf st hg
    subst hP hw hK
    obtain ⟨⟨last, q1⟩, q2, ne⟩ := st
    obtain ⟨xs, hq, hx⟩ := hg
    obtain ⟨its, rv, pt, _⟩ := I.tuple hq
    obtain ⟨f0, f1, f2, f3, f4, f5⟩ := hf it (by simp)
    have ln := rv.length
    exact wpAny_pyNext_enum_endD (draws_end (A := X.A.in1) (I.ok.hd hc) it a its.toArray i (by simp; omega)) q1 ⟨rfl, q2, pt⟩ fun h' eb => ⟨rfl, I.turned (t' := s.toks) (fun b ob hb q => eb b ob hb q) f0 f1 f3 f4 f5⟩
  self := by
    rintro A i s Q E ⟨⟨_, q1⟩, _⟩ h
    exact wpAny_pyIter_enum q1 h
/-- enumerate(v), v a list or a tuple -/
def iEnumE (K : PySem.W.Frag) (ta : TA) : TI := fun z H R => ta z H fun vs H1 => ∃ (a : Addr) (xs : List V), vs = [.ref a] ∧ ((SqL K H1 a xs ∧ R (Ite K a) H1) ∨ (SqT K H1 a xs ∧ R (Itp K a) H1))
theorem pi_enumE {X : Cx} {e : Expr} {ta : TA} {p pos ps0 : Pos} {xs0 : List Expr} {k0 : Nat} (hg : Gl X "enumerate") (hm : X.mg "enumerate" = none) (ha : PA X [e] ta) (hst : starEach [e] X.env = [(false, eval e X.env)] := by rfl) :
    PI X (.Tuple xs0 k0 ps0) (.Call (.Name "enumerate" p) [e] [] pos) (iEnumE X.K ta) := by
  refine ⟨fun pins s z H R I h => ?_⟩
  refine Call_ (ld_blt I hg hm boot_enumerate (PyProof.Rows.callWith_type1 (thn (ha.run pos pins s z H _ I h) fun us s1 ⟨vs, H1, I1, r1, q1⟩ => ?_) hst rfl))
  obtain ⟨a, xs, rfl, hq⟩ := q1
  rw [Vals.ref1 r1]
  have far : ∀ b, b ∈ [s1.heap.objs.size + 1, s1.heap.objs.size] → s1.heap.objs.size ≤ b := by
    intro b hb
    rcases List.mem_cons.mp hb with n | n
    · omega
    · rw [List.mem_singleton] at n
      omega
  rcases hq with ⟨hq, q⟩ | ⟨hq, q⟩
  · obtain ⟨its, rv, pl, _⟩ := I1.list hq
    refine call_enumerate_list pl.isList fun h' g1 g2 _ hk => wpAny_pyIter_enum g1 ?_
    have J := I1.kept (t' := s1.toks) hk
    exact ⟨s1.heap.objs.size + 1, [s1.heap.objs.size + 1, s1.heap.objs.size], _, _, H1, rfl, J, turn_enum a (s1.heap.objs.size + 1) s1.heap.objs.size, ⟨⟨.none, g1⟩, g2, Nat.succ_ne_self _⟩, fun b hb => I1.fpOk (far b hb) (I1.hok.fresh (far b hb)), q⟩
  · obtain ⟨its, rv, pt, _⟩ := I1.tuple hq
    refine call_enum_tup (show s1.heap.IsTuple a its.toArray from pt) fun h' g1 g2 hk => wpAny_pyIter_enum g1 ?_
    have J := I1.kept (t' := s1.toks) hk
    exact ⟨s1.heap.objs.size + 1, [s1.heap.objs.size + 1, s1.heap.objs.size], _, _, H1, rfl, J, turn_enumT a (s1.heap.objs.size + 1) s1.heap.objs.size, ⟨⟨.none, g1⟩, g2, Nat.succ_ne_self _⟩, fun b hb => I1.fpOk (far b hb) (I1.hok.fresh (far b hb)), q⟩
/-- for k, x in enumerate(t), t a tuple -/
theorem for_enumT {K : PySem.W.Frag} {a : Addr} {xs : List V} {g : TG} {tb : TS} {D : Ends} {z0 : L2.St} {H : Hp} (Pv : Nat → L2.St → Hp → Prop) (h0 : Pv 0 z0 H) (hl : ∀ i z h, i ≤ xs.length → Pv i z h → SqT K h a xs)
    (hs : ∀ i x T z h, xs[i]? = some x → h T = none → Pv i z h → g (.ref T) z (upd h T (.tup [.int (i : Nat), x])) fun z2 h2 => tb { D with nx := Pv (i + 1), ct := Pv (i + 1), bk := D.nx } z2 h2) (hd : ∀ z h, Pv xs.length z h → D.nx z h) :
    ∃ W : Nat → Nat → L2.St → Hp → Prop, (∃ m, W 0 m z0 H) ∧ ∀ i m z h, W i m z h →
      ((Itp K a).stop i h ∧ D.nx z h) ∨ ((Itp K a).go i h ∧ ∃ N : L2.St → Hp → Prop, (∀ z' h', N z' h' → ∃ m', m' < m ∧ W (i + 1) m' z' h') ∧ ∀ x h', (Itp K a).yld i h x h' → g x z h' fun z2 h2 => tb { D with nx := N, ct := N, bk := D.nx } z2 h2) := by
  refine ⟨fun i m z h => m = xs.length - i ∧ i ≤ xs.length ∧ Pv i z h, ⟨xs.length, by simp, Nat.zero_le _, h0⟩, ?_⟩
  rintro i m z h ⟨rfl, hi, p⟩
  have q := hl i z h hi p
  by_cases hlt : i < xs.length
  · refine .inr ⟨⟨xs, xs[i], q, by simp [hlt]⟩, Pv (i + 1), fun z' h' p' => ⟨xs.length - (i + 1), by omega, rfl, hlt, p'⟩, fun v h' y => ?_⟩
    obtain ⟨T, x, rfl, hT, rfl, hx⟩ := y
    exact hs i x T z h (hx xs q) hT p
  · obtain rfl : i = xs.length := by omega
    exact .inl ⟨⟨xs, q, Nat.le_refl _⟩, hd z h p⟩
end Gen
set_option Elab.async false
set_option linter.all false
set_option maxRecDepth 100000
set_option maxHeartbeats 4000000
/-! ## tuple.count of ints -/
namespace Gen
open PySem PySem.Spec PyProof.Rows L2
section
variable {X : Cx}
def rCntT (K : PySem.W.Frag) : V → List V → Hp → VK → Prop := fun x xs H Q => ∃ (p : Addr) (ns : List Int) (k : Int), x = .ref p ∧ xs = [.int k] ∧ SqT K H p (ns.map V.int) ∧ Q (.int (ns.count k : Nat)) H
theorem mt_tcount : MtR X "tuple.count" (rCntT X.K) := by
  intro pins s z H x xs v us Q I rx rxs h
  obtain ⟨p, ns, k, rfl, rfl, hs, q⟩ := h
  cases rx
  obtain ⟨u, rfl, ru⟩ := rxs.one
  obtain ⟨t, rfl⟩ := ru
  obtain ⟨its, rv, hl, hz⟩ := I.tuple hs
  obtain ⟨⟨cls, dd, data, sl⟩, ho, hc, n, hd⟩ := hl
  simp only at hc hd
  subst hc hd
  have hi := rv.ints
  refine call_meets PySem.F.slot_tuple_count ⟨_, ho, rfl⟩ PySem.F.entry_tuple_count (PySem.F.args_tuple_count_2 _ _)
    (SeqAt.tuple_countAt p its.toArray n dd sl (.int k t) (eqk k)) ⟨ho, fun y hy => (eqk_gives hi y (by simpa using hy)).at _ _, ?_⟩
  have ec : its.toArray.toList.countP (eqk k) = ns.count k := eqk_count hi
  refine ⟨.int (ns.count k : Nat), H, I.tok _, ⟨s.toks, ?_⟩, q⟩
  show Value.int ((its.toArray.toList.countP (eqk k) : Nat) : Int) s.toks = Value.int ((ns.count k : Nat) : Int) s.toks
  rw [ec]
/-- a tuple that is known to be a plain one -/
def TupN (H : Hp) (a : Addr) (xs : List V) : Prop := ∃ o : Obj, H a = some (.frz o (.tup xs)) ∧ o.cls = .type "tuple" ∧ o.dict = none
theorem TupN.sq {K : PySem.W.Frag} {H : Hp} {a : Addr} {xs : List V} (h : TupN H a xs) : SqT K H a xs := by
  obtain ⟨o, e, _⟩ := h
  exact .inl (.inr ⟨o, e⟩)
theorem TupN.same {H H' : Hp} {a : Addr} {xs : List V} (h : TupN H a xs) (s : Same H H') : TupN H' a xs := by
  obtain ⟨o, e, r⟩ := h
  exact ⟨o, s _ _ e, r⟩
theorem TupN.at {o : Obj} {H : Hp} {a : Addr} {xs : List V} (h1 : o.cls = .type "tuple") (h2 : o.dict = none) : TupN (upd H a (.frz o (.tup xs))) a xs := ⟨o, upd_same, h1, h2⟩
theorem call_tuple_ofN : CallR X (.type "tuple") (fun xs H Q => ∃ p ys, xs = [.ref p] ∧ SqL X.K H p ys ∧ ∀ (l : Addr) (o : Obj), H l = none → o.cls = .type "tuple" → o.dict = none → Q (.ref l) (upd H l (.frz o (.tup ys)))) := by
  intro pins s σ H xs us Q I r h
  obtain ⟨p, ys, rfl, hq, q⟩ := h
  rw [Vals.ref1 r]
  obtain ⟨its, r', pl, hz⟩ := I.list hq
  have hlen := r'.length
  refine call_tuple_list pl.isList (fun h' kp => ?_) (by simp only [List.size_toArray] <;> omega)
  have I1 : Inv X pins σ H { s with heap := h' } := I.kept (t' := s.toks) kp
  have I2 : Inv X pins σ (upd H h'.objs.size (.frz { cls := .type "tuple", data := .seq its.toArray } (.tup ys))) { s with heap := h'.push { cls := .type "tuple", data := .seq its.toArray } } :=
    I1.laid (t' := s.toks) (fun b o e => Heap.get?_push_of_some _ e) (Nat.le_refl _) (show ObjOk X.prog X.w _ _ _ (.frz _ (.tup ys)) from ⟨Heap.get?_push_size _ rfl, hz, its, r', IsTup.new _ _⟩)
  exact ⟨.ref h'.objs.size, _, I2, rfl, q _ _ (I1.hok.fresh (Nat.le_refl _)) rfl rfl⟩
def tTM (r : V → List V → Hp → VK → Prop) (to : TE) (t : TA) : TE := fun σ H Q => to σ H fun x H1 => (∃ p xs, x = .ref p ∧ TupN H1 p xs) ∧ t σ H1 fun xs H2 => r x xs H2 Q
variable {o e : Expr} {es : List Expr} {to : TE} {t : TA} {name : Str} {apos cpos : Pos} {id : String} {r : V → List V → Hp → VK → Prop}
theorem pe_tm (pa : PlainAttrs "tuple") (slot : Slot "tuple" name id) (hty : typeOf (.builtin id) = pure (.type "method_descriptor")) (hm : MtR X id r) (ho : PE X o to) (ha : PA X (e :: es) t)
    (hbase : attributeBase o name X.env (eval o X.env) = eval o X.env := by rfl)
    (hfew : ((backTo cpos (starEach (e :: es) X.env)).all (fun x => !x.1) && (backToKw cpos (keywordEach [] X.env)).all (fun x => x.1.isSome)
      && decide ((e :: es).length + ([] : List Keyword).length + (if ([] : List Keyword).isEmpty then 0 else 1) < 30)) = true := by rfl)
    (hline : (apos.endLine == cpos.line) = true := by rfl) (hs : starEach (e :: es) X.env = (false, eval e X.env) :: starEach es X.env := by rfl) (hplain : (backTo cpos (starEach es X.env)).any (·.1) = false := by rfl) :
    PE X (.Call (.Attribute o name apos) (e :: es) [] cpos) (tTM r to t) := by
  refine ⟨fun pins s σ H Q I h => ?_⟩
  refine wpAny_Call_method_late hbase hfew hline rfl (thn (ho.run pins s σ H _ I h) fun v s1 ⟨x, H1, I1, r1, ty, q1⟩ => ?_)
  obtain ⟨p, xs, ex, hp⟩ := ty
  subst ex
  obtain ⟨ob, ea, hc, hd⟩ := hp
  cases r1
  obtain ⟨eo, _⟩ := (show ObjOk X.prog X.w H1 s1.heap p (.frz ob (.tup xs)) from I1.hok p _ ea)
  refine ⟨"tuple", id, pa, slot, hty, ⟨ob, eo, hc⟩, fun a e2 => ?_, ?_⟩
  · cases e2
    exact ⟨ob, eo, hd⟩
  · have hA := ha.run cpos pins s1 σ H1 _ I1 q1
    rw [hs] at hA ⊢
    refine Calls.callWith_builtin (by show (false || (backTo cpos (starEach es X.env)).any (·.1)) = false; rw [hplain] <;> rfl) (Calls.evalArgs_plain ?_)
    exact thn hA fun us s2 ⟨vs, H2, I2, r2, q2⟩ => hm pins s2 σ H2 (.ref p) vs (.ref p) us Q I2 rfl r2 q2
theorem mt_tcountK {K : PySem.W.Frag} (hK : X.K = K) : MtR X "tuple.count" (rCntT K) := hK ▸ mt_tcount
end
end Gen
set_option Elab.async false
set_option linter.all false
set_option maxRecDepth 100000
set_option maxHeartbeats 4000000
/-! ## rules for a K that is named: within a comprehension -/
namespace Gen
open PySem PySem.Spec PyProof.Rows L2
section
variable {X : Cx} {K : PySem.W.Frag}
theorem sl_tupAK (hK : X.K = K) : SlR X (rSlA K) := hK ▸ sl_tupA
theorem sl_listK (hK : X.K = K) : SlR X (rSlL K) := hK ▸ sl_list
theorem ix_tupK (hK : X.K = K) : IxR X (rIxT K) := hK ▸ ix_tup
theorem ix_listK (hK : X.K = K) : IxR X (rIxL K) := hK ▸ ix_list
theorem cr_sumEK (hK : X.K = K) (hc : X.calm = true) : CallR X (.builtin "sum") (rSumE K) := hK ▸ cr_sumE hc
theorem cr_sortedEK (hK : X.K = K) : CallR X (.builtin "sorted") (rSortedE K) := hK ▸ cr_sortedE
theorem op_catAK (hK : X.K = K) : OpR X (binaryOp .Add) (rCatA K) := hK ▸ op_catA
end
end Gen
set_option Elab.async false
set_option linter.all false
set_option maxRecDepth 100000
set_option maxHeartbeats 4000000
namespace My
open PySem PySem.Spec PyProof.Rows L2 Gen
/-! ### the text by places -/
def top (i : Nat) : Stmt := PySem.Challenge.pw_anyworths_k04_lots_taken_and_pools_joine.main.body.getD i (.Pass ⟨0, 0, 0, 0⟩)
abbrev s_i_BadPool : Stmt := inClass (top 2) 0
abbrev nm_i_BadPool : List Str := ["self", "place", "what"]
abbrev ps_i_BadPool : List Str := ["self", "place", "what"]
theorem sc_i_BadPool : FnScope nm_i_BadPool ps_i_BadPool (defScope s_i_BadPool) := ⟨rfl, rfl, rfl, by decide +kernel, rfl, by decide +kernel, by decide +kernel⟩
abbrev s_is_number : Stmt := top 7
abbrev nm_is_number : List Str := ["thing"]
abbrev ps_is_number : List Str := ["thing"]
theorem sc_is_number : FnScope nm_is_number ps_is_number (defScope s_is_number) := ⟨rfl, rfl, rfl, by decide +kernel, rfl, by decide +kernel, by decide +kernel⟩
abbrev s_is_whole : Stmt := top 8
abbrev nm_is_whole : List Str := ["thing", "low", "high"]
abbrev ps_is_whole : List Str := ["thing", "low", "high"]
theorem sc_is_whole : FnScope nm_is_whole ps_is_whole (defScope s_is_whole) := ⟨rfl, rfl, rfl, by decide +kernel, rfl, by decide +kernel, by decide +kernel⟩
abbrev s_is_row : Stmt := top 9
abbrev nm_is_row : List Str := ["thing", "least", "most"]
abbrev ps_is_row : List Str := ["thing", "least", "most"]
theorem sc_is_row : FnScope nm_is_row ps_is_row (defScope s_is_row) := ⟨rfl, rfl, rfl, by decide +kernel, rfl, by decide +kernel, by decide +kernel⟩
abbrev s_check_pool : Stmt := top 10
abbrev nm_check_pool : List Str := ["coins", "place", "coin"]
abbrev ps_check_pool : List Str := ["coins"]
theorem sc_check_pool : FnScope nm_check_pool ps_check_pool (defScope s_check_pool) := ⟨rfl, rfl, rfl, by decide +kernel, rfl, by decide +kernel, by decide +kernel⟩
abbrev s_has_lot : Stmt := top 12
abbrev nm_has_lot : List Str := ["pool", "lot", "coins"]
abbrev ps_has_lot : List Str := ["pool", "lot"]
theorem sc_has_lot : FnScope nm_has_lot ps_has_lot (defScope s_has_lot) := ⟨rfl, rfl, rfl, by decide +kernel, rfl, by decide +kernel, by decide +kernel⟩
abbrev s_is_within : Stmt := top 13
abbrev nm_is_within : List Str := ["coins", "lot", "worth"]
abbrev ps_is_within : List Str := ["coins", "lot"]
theorem sc_is_within : FnScope nm_is_within ps_is_within (defScope s_is_within) := ⟨rfl, rfl, rfl, by decide +kernel, rfl, by decide +kernel, by decide +kernel⟩
abbrev s_less_lot : Stmt := top 14
abbrev nm_less_lot : List Str := ["pool", "lot", "coins", "taken"]
abbrev ps_less_lot : List Str := ["pool", "lot"]
theorem sc_less_lot : FnScope nm_less_lot ps_less_lot (defScope s_less_lot) := ⟨rfl, rfl, rfl, by decide +kernel, rfl, by decide +kernel, by decide +kernel⟩
abbrev s_rest_of : Stmt := top 15
abbrev nm_rest_of : List Str := ["coins", "lot", "left", "coin"]
abbrev ps_rest_of : List Str := ["coins", "lot"]
theorem sc_rest_of : FnScope nm_rest_of ps_rest_of (defScope s_rest_of) := ⟨rfl, rfl, rfl, by decide +kernel, rfl, by decide +kernel, by decide +kernel⟩
abbrev s_joined_pools : Stmt := top 16
abbrev nm_joined_pools : List Str := ["one", "other", "coins"]
abbrev ps_joined_pools : List Str := ["one", "other"]
theorem sc_joined_pools : FnScope nm_joined_pools ps_joined_pools (defScope s_joined_pools) := ⟨rfl, rfl, rfl, by decide +kernel, rfl, by decide +kernel, by decide +kernel⟩
abbrev s_l_mix : Stmt := top 18
abbrev nm_l_mix : List Str := ["_law_number", "_law_turn", "_law_once", "_law_twice"]
abbrev ps_l_mix : List Str := ["_law_number", "_law_turn"]
theorem sc_l_mix : FnScope nm_l_mix ps_l_mix (defScope s_l_mix) := ⟨rfl, rfl, rfl, by decide +kernel, rfl, by decide +kernel, by decide +kernel⟩
abbrev s_l_hand : Stmt := top 19
abbrev nm_l_hand : List Str := ["_law_script", "_law_total", "_law_k", "_law_cell"]
abbrev ps_l_hand : List Str := ["_law_script"]
theorem sc_l_hand : FnScope nm_l_hand ps_l_hand (defScope s_l_hand) := ⟨rfl, rfl, rfl, by decide +kernel, rfl, by decide +kernel, by decide +kernel⟩
abbrev s_l_draw : Stmt := top 20
abbrev nm_l_draw : List Str := ["_law_hand_here", "_law_many", "_law_cell", "_law_rest"]
abbrev ps_l_draw : List Str := ["_law_hand_here", "_law_many"]
theorem sc_l_draw : FnScope nm_l_draw ps_l_draw (defScope s_l_draw) := ⟨rfl, rfl, rfl, by decide +kernel, rfl, by decide +kernel, by decide +kernel⟩
abbrev s_l_big : Stmt := top 21
abbrev nm_l_big : List Str := ["_law_hand_here", "_law_many", "_law_number", "_law_k"]
abbrev ps_l_big : List Str := ["_law_hand_here", "_law_many"]
theorem sc_l_big : FnScope nm_l_big ps_l_big (defScope s_l_big) := ⟨rfl, rfl, rfl, by decide +kernel, rfl, by decide +kernel, by decide +kernel⟩
abbrev s_l_whole : Stmt := top 22
abbrev nm_l_whole : List Str := ["_law_thing"]
abbrev ps_l_whole : List Str := ["_law_thing"]
theorem sc_l_whole : FnScope nm_l_whole ps_l_whole (defScope s_l_whole) := ⟨rfl, rfl, rfl, by decide +kernel, rfl, by decide +kernel, by decide +kernel⟩
abbrev s_l_lot_like : Stmt := top 23
abbrev nm_l_lot_like : List Str := ["_law_told", "_law_coin"]
abbrev ps_l_lot_like : List Str := ["_law_told"]
theorem sc_l_lot_like : FnScope nm_l_lot_like ps_l_lot_like (defScope s_l_lot_like) := ⟨rfl, rfl, rfl, by decide +kernel, rfl, by decide +kernel, by decide +kernel⟩
abbrev s_l_serving : Stmt := top 24
abbrev nm_l_serving : List Str := ["_law_hand_here", "_law_many", "_law_people", "_law_coins", "_law_k", "_law_room", "_law_mode"]
abbrev ps_l_serving : List Str := ["_law_hand_here", "_law_many", "_law_people"]
theorem sc_l_serving : FnScope nm_l_serving ps_l_serving (defScope s_l_serving) := ⟨rfl, rfl, rfl, by decide +kernel, rfl, by decide +kernel, by decide +kernel⟩
abbrev s_l_pool : Stmt := top 25
abbrev nm_l_pool : List Str := ["_law_hand_here", "_law_most", "_law_people", "_law_many", "_law_mode", "_law_k", "_law_coins", "_law_at"]
abbrev ps_l_pool : List Str := ["_law_hand_here", "_law_most", "_law_people"]
theorem sc_l_pool : FnScope nm_l_pool ps_l_pool (defScope s_l_pool) := ⟨rfl, rfl, rfl, by decide +kernel, rfl, by decide +kernel, by decide +kernel⟩
abbrev s_l_great : Stmt := top 26
abbrev nm_l_great : List Str := ["_law_hand_here", "_law_most", "_law_many", "_law_coins", "_law_k"]
abbrev ps_l_great : List Str := ["_law_hand_here", "_law_most"]
theorem sc_l_great : FnScope nm_l_great ps_l_great (defScope s_l_great) := ⟨rfl, rfl, rfl, by decide +kernel, rfl, by decide +kernel, by decide +kernel⟩
abbrev s_l_turned : Stmt := top 27
abbrev nm_l_turned : List Str := ["_law_hand_here", "_law_coins", "_law_out", "_law_coin"]
abbrev ps_l_turned : List Str := ["_law_hand_here", "_law_coins"]
theorem sc_l_turned : FnScope nm_l_turned ps_l_turned (defScope s_l_turned) := ⟨rfl, rfl, rfl, by decide +kernel, rfl, by decide +kernel, by decide +kernel⟩
abbrev s_l_few : Stmt := top 28
abbrev nm_l_few : List Str := ["_law_hand_here", "_law_worths", "_law_k"]
abbrev ps_l_few : List Str := ["_law_hand_here"]
theorem sc_l_few : FnScope nm_l_few ps_l_few (defScope s_l_few) := ⟨rfl, rfl, rfl, by decide +kernel, rfl, by decide +kernel, by decide +kernel⟩
abbrev s_l_odd : Stmt := top 29
abbrev nm_l_odd : List Str := ["_law_hand_here", "_law_big_here"]
abbrev ps_l_odd : List Str := ["_law_hand_here"]
theorem sc_l_odd : FnScope nm_l_odd ps_l_odd (defScope s_l_odd) := ⟨rfl, rfl, rfl, by decide +kernel, rfl, by decide +kernel, by decide +kernel⟩
abbrev s_l_odd_coin : Stmt := top 30
abbrev nm_l_odd_coin : List Str := ["_law_hand_here"]
abbrev ps_l_odd_coin : List Str := ["_law_hand_here"]
theorem sc_l_odd_coin : FnScope nm_l_odd_coin ps_l_odd_coin (defScope s_l_odd_coin) := ⟨rfl, rfl, rfl, by decide +kernel, rfl, by decide +kernel, by decide +kernel⟩
abbrev s_l_due_rest : Stmt := top 31
abbrev nm_l_due_rest : List Str := ["_law_coins", "_law_lot", "_law_rest", "_law_coin"]
abbrev ps_l_due_rest : List Str := ["_law_coins", "_law_lot"]
theorem sc_l_due_rest : FnScope nm_l_due_rest ps_l_due_rest (defScope s_l_due_rest) := ⟨rfl, rfl, rfl, by decide +kernel, rfl, by decide +kernel, by decide +kernel⟩
abbrev s_l_taken : Stmt := top 32
abbrev nm_l_taken : List Str := ["_law_coins", "_law_lot", "_law_told"]
abbrev ps_l_taken : List Str := ["_law_coins", "_law_lot"]
theorem sc_l_taken : FnScope nm_l_taken ps_l_taken (defScope s_l_taken) := ⟨rfl, rfl, rfl, by decide +kernel, rfl, by decide +kernel, by decide +kernel⟩
abbrev s_l_refused : Stmt := top 33
abbrev nm_l_refused : List Str := ["_law_coins", "_law_lot", "_law_way", "_law_told", "e"]
abbrev ps_l_refused : List Str := ["_law_coins", "_law_lot", "_law_way"]
theorem sc_l_refused : FnScope nm_l_refused ps_l_refused (defScope s_l_refused) := ⟨rfl, rfl, rfl, by decide +kernel, rfl, by decide +kernel, by decide +kernel⟩
abbrev s_l_asked : Stmt := top 34
abbrev nm_l_asked : List Str := ["_law_hand_here", "_law_coins", "_law_lot", "_law_given", "_law_wanted", "_law_kept", "_law_due", "_law_within", "_law_rest", "_law_back"]
abbrev ps_l_asked : List Str := ["_law_hand_here", "_law_coins", "_law_lot"]
theorem sc_l_asked : FnScope nm_l_asked ps_l_asked (defScope s_l_asked) := ⟨rfl, rfl, rfl, by decide +kernel, rfl, by decide +kernel, by decide +kernel⟩
abbrev s_l_lot_of : Stmt := top 35
abbrev nm_l_lot_of : List Str := ["_law_hand_here", "_law_coins", "_law_coin"]
abbrev ps_l_lot_of : List Str := ["_law_hand_here", "_law_coins"]
theorem sc_l_lot_of : FnScope nm_l_lot_of ps_l_lot_of (defScope s_l_lot_of) := ⟨rfl, rfl, rfl, by decide +kernel, rfl, by decide +kernel, by decide +kernel⟩
abbrev s_law : Stmt := top 36
abbrev nm_law : List Str := ["_law_script", "_law_hand_here", "_law_coins", "_law_lot", "_law_more", "_law_other", "_law_both", "_law_at", "_law_wrong", "_law_k", "_law_way", "_law_none"]
abbrev ps_law : List Str := ["_law_script"]
theorem sc_law : FnScope nm_law ps_law (defScope s_law) := ⟨rfl, rfl, rfl, by decide +kernel, rfl, by decide +kernel, by decide +kernel⟩
/-! ### what the top has written -/
structure Txt (K : PySem.W.Frag) (mg : Str → Option Value) (cBadPool : Addr) (cBadLot : Addr) : Prop where
  d_is_number : Df K mg "is_number" s_is_number ps_is_number
  d_is_whole : Df K mg "is_whole" s_is_whole ps_is_whole
  d_is_row : Df K mg "is_row" s_is_row ps_is_row
  d_check_pool : Df K mg "check_pool" s_check_pool ps_check_pool
  d_has_lot : Df K mg "has_lot" s_has_lot ps_has_lot
  d_is_within : Df K mg "is_within" s_is_within ps_is_within
  d_less_lot : Df K mg "less_lot" s_less_lot ps_less_lot
  d_rest_of : Df K mg "rest_of" s_rest_of ps_rest_of
  d_joined_pools : Df K mg "joined_pools" s_joined_pools ps_joined_pools
  d_l_mix : Df K mg "_law_mix" s_l_mix ps_l_mix
  d_l_hand : Df K mg "_law_hand" s_l_hand ps_l_hand
  d_l_draw : Df K mg "_law_draw" s_l_draw ps_l_draw
  d_l_big : Df K mg "_law_big" s_l_big ps_l_big
  d_l_whole : Df K mg "_law_whole" s_l_whole ps_l_whole
  d_l_lot_like : Df K mg "_law_lot_like" s_l_lot_like ps_l_lot_like
  d_l_serving : Df K mg "_law_serving" s_l_serving ps_l_serving
  d_l_pool : Df K mg "_law_pool" s_l_pool ps_l_pool
  d_l_great : Df K mg "_law_great" s_l_great ps_l_great
  d_l_turned : Df K mg "_law_turned" s_l_turned ps_l_turned
  d_l_few : Df K mg "_law_few" s_l_few ps_l_few
  d_l_odd : Df K mg "_law_odd" s_l_odd ps_l_odd
  d_l_odd_coin : Df K mg "_law_odd_coin" s_l_odd_coin ps_l_odd_coin
  d_l_due_rest : Df K mg "_law_due_rest" s_l_due_rest ps_l_due_rest
  d_l_taken : Df K mg "_law_taken" s_l_taken ps_l_taken
  d_l_refused : Df K mg "_law_refused" s_l_refused ps_l_refused
  d_l_asked : Df K mg "_law_asked" s_l_asked ps_l_asked
  d_l_lot_of : Df K mg "_law_lot_of" s_l_lot_of ps_l_lot_of
  d_law : Df K mg "law" s_law ps_law
  c_MOST_COINS : ∃ u, mg "MOST_COINS" = some u ∧ RelV (.int 12) u
  c_GREATEST_COIN : ∃ u, mg "GREATEST_COIN" = some u ∧ RelV (.int 1000000000) u
  n_isinstance : mg "isinstance" = none
  n_int : mg "int" = none
  n_bool : mg "bool" = none
  n_list : mg "list" = none
  n_tuple : mg "tuple" = none
  n_len : mg "len" = none
  n_enumerate : mg "enumerate" = none
  n_sorted : mg "sorted" = none
  n_all : mg "all" = none
  n_abs : mg "abs" = none
  n_range : mg "range" = none
  n_sum : mg "sum" = none
  n_max : mg "max" = none
  y_BadPool : XI K mg "BadPool" "BadPool.__init__" s_i_BadPool ps_i_BadPool cBadPool
  x_BadPool : XfC K cBadPool
  f_BadPool_place : PySem.W.findIn K (.ref cBadPool) "place" = some none
  f_BadPool_what : PySem.W.findIn K (.ref cBadPool) "what" = some none
  y_BadLot : XP K mg "BadLot" cBadLot
  m_BadPool_BadPool : PySem.W.exmOne K (.ref cBadPool) (.ref cBadPool) = some true
  m_BadPool_BadLot : PySem.W.exmOne K (.ref cBadPool) (.ref cBadLot) = some false
  m_BadLot_BadPool : PySem.W.exmOne K (.ref cBadLot) (.ref cBadPool) = some false
  m_BadLot_BadLot : PySem.W.exmOne K (.ref cBadLot) (.ref cBadLot) = some true
end My
set_option Elab.async false
set_option linter.all false
set_option maxRecDepth 100000
set_option maxHeartbeats 4000000
namespace My
open PySem PySem.Spec PyProof.Rows L2 Gen
section
variable {P : Program} {w : World} {K : PySem.W.Frag} {mg : Str → Option Value} {base : Heap} { cBadPool cBadLot : Addr}
theorem ok_i_BadPool {f : Addr} {fd : FuncData} (F : Fun K "__init__" "BadPool.__init__" s_i_BadPool f fd) (T : Txt K mg cBadPool cBadLot) : FnOk P w K mg base CX0 1 f fd ps_i_BadPool (spI2 K cBadPool "place" "what") := by
  refine F.ok (k := 0) sc_i_BadPool (fun vs H Q E h => by obtain ⟨_, _, _, rfl, _⟩ := h; rfl) (fun cdv A outer s H vs Q E hr h => ?_)
  refine ⟨_, (pss_cons (ps_ost (pv 0) (pv 1))
      (pss_one (ps_ost (pv 0) (pv 2)))), ?_⟩
  obtain ⟨a, v, u, rfl, ha, ox, hn, hm, q⟩ := h
  refine ⟨_, rfl, _, rfl, a, _, rfl, ox, hn, .inl ⟨ha, fun dx hx ne => ⟨_, rfl, _, rfl, a, _, rfl, ox, hm, .inr ⟨dx, [("place", v)], upd_same, by rw [upd_ne ne, upd_same], show 1 ≤ 900 by decide, q dx hx ne⟩⟩⟩⟩
def sp_is_number (_ : PySem.W.Frag) : Sp := fun vs H Q _ => ∃ x : V, vs = [x] ∧ Plain H x ∧ Q (.bl (isI x)) H
theorem len_is_number {vs H Q E} (h : sp_is_number K vs H Q E) : vs.length = 1 := by
  obtain ⟨_, rfl, _⟩ := h; rfl
theorem ok_is_number {f : Addr} {fd : FuncData} (F : Fun K "is_number" "is_number" s_is_number f fd) (T : Txt K mg cBadPool cBadLot) : FnOk P w K mg base CX0 1 f fd ps_is_number (sp_is_number K) := by
  refine F.ok (k := 0) sc_is_number (fun vs H Q E h => len_is_number h) (fun cdv A outer s H vs Q E hr h => ?_)
  refine ⟨_, (pss_one (ps_ret (pe_and (pe_callB call_isi (by rfl) T.n_isinstance (by decide +kernel) (pa_cons (pv 0) (pa_cons (pe_bltn (v := .ty "int") (by rfl) T.n_int (by decide +kernel) rfl) pa_nil))) (pe_one (pe_not (pe_callB call_isi (by rfl) T.n_isinstance (by decide +kernel) (pa_cons (pv 0) (pa_cons (pe_bltn (v := .ty "bool") (by rfl) T.n_bool (by decide +kernel) rfl) pa_nil)))))))), ?_⟩
  obtain ⟨x, rfl, hp, q⟩ := h
  simp only [tSeq, tAsg, tDrop, tRet, tRetN, tIfS, tNext, tTest, tB, tNot, tAnd, tOr, tChain, tIf, tAndV, tOrV, tNotV, tOp, tUn, tCB, tCons, tNil, tVar, tC, tCall, tCallS, gName, rI, rI0, rU, rEq, rNe, tTup, tLst, gSub, rSetL, rIxL, rIxT, L2.start, List.map_cons, List.map_nil, List.length_cons, List.length_nil, Nat.reduceAdd, Nat.reduceSub, List.replicate_succ, List.replicate_zero, List.getElem?_cons_zero, List.getElem?_cons_succ, List.set_cons_zero, List.set_cons_succ, Option.some.injEq, exists_eq_left', exists_eq_left, exists_and_left, V.int.injEq, V.bl.injEq, V.ref.injEq, V.str.injEq, List.cons.injEq, and_true, true_and, List.nil_append, List.cons_append, List.append_nil, reduceCtorEq, false_and, exists_false, or_false, false_or, and_false, Int.reduceNeg, decide_eq_true_eq, Bool.not_eq_true', decide_eq_false_iff_not, and_assoc, tYes, ↓reduceIte, wipe, Bool.false_eq_true, Bool.true_eq_false, cxOf, false_implies, true_implies, implies_true, forall_const]
  refine isi_int hp ?_
  cases x with
  | int i => exact ⟨true, rfl, iteT (isi_bool hp ⟨false, rfl, q⟩)⟩
  | bl i => exact ⟨true, rfl, iteT (isi_bool hp ⟨true, rfl, q⟩)⟩
  | _ => exact ⟨false, rfl, iteF q⟩
def sp_is_whole (_ : PySem.W.Frag) : Sp := fun vs H Q _ => ∃ (x : V) (lo hi : Int), vs = [x, .int lo, .int hi] ∧ Plain H x ∧ Q (.bl (whole x lo hi)) H
theorem len_is_whole {vs H Q E} (h : sp_is_whole K vs H Q E) : vs.length = 3 := by
  obtain ⟨_, _, _, rfl, _⟩ := h; rfl
theorem ok_is_whole {f : Addr} {fd : FuncData} (F : Fun K "is_whole" "is_whole" s_is_whole f fd) (T : Txt K mg cBadPool cBadLot) : FnOk P w K mg base CX0 2 f fd ps_is_whole (sp_is_whole K) := by
  obtain ⟨f_is_number, fd_is_number, F_is_number, m_is_number, b_is_number⟩ := T.d_is_number
  have G_is_number : FnOk P w K mg base CX0 1 f_is_number fd_is_number ps_is_number (sp_is_number K) := ok_is_number F_is_number T
  refine F.ok (k := 1) sc_is_whole (fun vs H Q E h => len_is_whole h) (fun cdv A outer s H vs Q E hr h => ?_)
  refine ⟨_, (pss_one (ps_ret (pe_and (pe_call G_is_number (hr.mono (by decide)) (by rfl) m_is_number F_is_number.kp b_is_number .nil pass0 (pa_cons (pv 0) pa_nil)) (pe_one (pe_chain op_le op_le (pv 1) (pv 0) (pv 2)))))), ?_⟩
  obtain ⟨x, lo, hi, rfl, hp, q⟩ := h
  simp only [tSeq, tAsg, tDrop, tRet, tRetN, tIfS, tNext, tTest, tB, tNot, tAnd, tOr, tChain, tIf, tAndV, tOrV, tNotV, tOp, tUn, tCB, tCons, tNil, tVar, tC, tCall, tCallS, gName, rI, rI0, rU, rEq, rNe, tTup, tLst, gSub, rSetL, rIxL, rIxT, L2.start, List.map_cons, List.map_nil, List.length_cons, List.length_nil, Nat.reduceAdd, Nat.reduceSub, List.replicate_succ, List.replicate_zero, List.getElem?_cons_zero, List.getElem?_cons_succ, List.set_cons_zero, List.set_cons_succ, Option.some.injEq, exists_eq_left', exists_eq_left, exists_and_left, V.int.injEq, V.bl.injEq, V.ref.injEq, V.str.injEq, List.cons.injEq, and_true, true_and, List.nil_append, List.cons_append, List.append_nil, reduceCtorEq, false_and, exists_false, or_false, false_or, and_false, Int.reduceNeg, decide_eq_true_eq, Bool.not_eq_true', decide_eq_false_iff_not, and_assoc, tYes, ↓reduceIte, wipe, Bool.false_eq_true, Bool.true_eq_false, cxOf, false_implies, true_implies, implies_true, forall_const, sp_is_number]
  refine ⟨hp, ?_⟩
  cases x with
  | int i =>
    refine iteT ?_
    simp only [tSeq, tAsg, tDrop, tRet, tRetN, tIfS, tNext, tTest, tB, tNot, tAnd, tOr, tChain, tIf, tAndV, tOrV, tNotV, tOp, tUn, tCB, tCons, tNil, tVar, tC, tCall, tCallS, gName, rI, rI0, rU, rEq, rNe, tTup, tLst, gSub, rSetL, rIxL, rIxT, L2.start, List.map_cons, List.map_nil, List.length_cons, List.length_nil, Nat.reduceAdd, Nat.reduceSub, List.replicate_succ, List.replicate_zero, List.getElem?_cons_zero, List.getElem?_cons_succ, List.set_cons_zero, List.set_cons_succ, Option.some.injEq, exists_eq_left', exists_eq_left, exists_and_left, V.int.injEq, V.bl.injEq, V.ref.injEq, V.str.injEq, List.cons.injEq, and_true, true_and, List.nil_append, List.cons_append, List.append_nil, reduceCtorEq, false_and, exists_false, or_false, false_or, and_false, Int.reduceNeg, decide_eq_true_eq, Bool.not_eq_true', decide_eq_false_iff_not, and_assoc, tYes, ↓reduceIte, wipe, Bool.false_eq_true, Bool.true_eq_false, cxOf, false_implies, true_implies, implies_true, forall_const]
    by_cases c : lo ≤ i
    · rw [if_pos c]
      have e : whole (.int i) lo hi = decide (i ≤ hi) := by show (decide (lo ≤ i) && decide (i ≤ hi)) = _; rw [decide_eq_true c, Bool.true_and]
      rw [e] at q
      exact q
    · rw [if_neg c]
      have e : whole (.int i) lo hi = false := by show (decide (lo ≤ i) && decide (i ≤ hi)) = _; rw [decide_eq_false c, Bool.false_and]
      rw [e] at q
      exact q
  | _ => exact iteF q
def Row (H : Hp) (a : Addr) (xs : List V) : Prop := H a = some (.tup xs) ∨ H a = some (.lst xs)
theorem Row.sq {H : Hp} {a : Addr} {xs : List V} (h : Row H a xs) : SqL K H a xs ∨ SqT K H a xs := h.elim (fun e => .inr (SqT.of e)) fun e => .inl (SqL.of e)
theorem Row.same {H H' : Hp} {a : Addr} {xs : List V} (h : Row H a xs) (s : Same H H') : Row H' a xs := h.elim (fun e => .inl (s _ _ e)) fun e => .inr (s _ _ e)
theorem Row.one {H : Hp} {a : Addr} {xs ys : List V} (h : Row H a xs) (h2 : Row H a ys) : xs = ys := by
  rcases h with h | h <;> rcases h2 with h2 | h2 <;> (rw [h] at h2; cases h2) <;> rfl
theorem isiT_yes {H : Hp} {a p : Addr} {xs : List V} {Q : VK} (h : Row H a xs) (hT : H p = some (.tup [V.ty "list", V.ty "tuple"])) (q : Q (.bl true) H) : rIsiT K [.ref a, .ref p] H Q := by
  rcases h with h | h
  · exact ⟨_, _, _, _, _, true, rfl, hT, .cons (.ty _) (.cons (.ty _) .nil), .base (.tup h), kitAny_cons (b := false) (kit_ty (by decide +kernel)) (fun _ => kitAny_cons (b := true) (kit_ty (by decide +kernel)) (fun z => by cases z) fun _ => rfl) (fun z => by cases z), q⟩
  · exact ⟨_, _, _, _, _, true, rfl, hT, .cons (.ty _) (.cons (.ty _) .nil), .base (.lst h), kitAny_cons (b := true) (kit_ty (by decide +kernel)) (fun z => by cases z) (fun _ => rfl), q⟩
theorem isiT_no {H : Hp} {x : V} {p : Addr} {Q : VK} (hp : Plain H x) (n : ∀ a xs, x = .ref a → ¬ Row H a xs) (hT : H p = some (.tup [V.ty "list", V.ty "tuple"])) (q : Q (.bl false) H) : rIsiT K [x, .ref p] H Q := by
  have mk : ∀ {t : String}, TyX K H x (.type t) → kitB t "list" = some false → kitB t "tuple" = some false → rIsiT K [x, .ref p] H Q := fun ty h1 h2 =>
    ⟨_, _, _, _, _, false, rfl, hT, .cons (.ty _) (.cons (.ty _) .nil), ty, kitAny_cons (b := false) (kit_ty h1) (fun _ => kitAny_cons (b := false) (kit_ty h2) (fun _ => rfl) (fun z => by cases z)) (fun z => by cases z), q⟩
  cases x with
  | non => exact mk (.base .non) (by decide +kernel) (by decide +kernel)
  | bl b => exact mk (.base (.bl b)) (by decide +kernel) (by decide +kernel)
  | int i => exact mk (.base (.int i)) (by decide +kernel) (by decide +kernel)
  | str z => exact mk (.base (.str z)) (by decide +kernel) (by decide +kernel)
  | ref a =>
    rcases hp with ⟨xs, h⟩ | ⟨xs, h⟩ | ⟨xs, h⟩
    · exact absurd (.inl h) (n a xs rfl)
    · exact absurd (.inr h) (n a xs rfl)
    · exact mk (.base (.dK h)) (by decide +kernel) (by decide +kernel)
  | byt _ => exact hp.elim
  | flt _ => exact hp.elim
  | ty _ => exact hp.elim
def sp_is_row (_ : PySem.W.Frag) : Sp := fun vs H Q _ => ∃ (x : V) (lo hi : Int), vs = [x, .int lo, .int hi] ∧ Plain H x ∧
  ((∃ a xs, x = .ref a ∧ Row H a xs ∧ ∀ H', Same H H' → Q (.bl (decide (lo ≤ (xs.length : Int)) && decide ((xs.length : Int) ≤ hi))) H') ∨ ((∀ a xs, x = .ref a → ¬ Row H a xs) ∧ ∀ H', Same H H' → Q (.bl false) H'))
theorem len_is_row {vs H Q E} (h : sp_is_row K vs H Q E) : vs.length = 3 := by
  obtain ⟨_, _, _, rfl, _⟩ := h; rfl
theorem ok_is_row {f : Addr} {fd : FuncData} (F : Fun K "is_row" "is_row" s_is_row f fd) (T : Txt K mg cBadPool cBadLot) : FnOk P w K mg base CX0 1 f fd ps_is_row (sp_is_row K) := by
  refine F.ok (k := 0) sc_is_row (fun vs H Q E h => len_is_row h) (fun cdv A outer s H vs Q E hr h => ?_)
  refine ⟨_, (pss_one (ps_ret (pe_and (pe_callB call_isiT (by rfl) T.n_isinstance (by decide +kernel) (pa_cons (pv 0) (pa_cons (pe_tup (pa_cons (pe_bltn (v := .ty "list") (by rfl) T.n_list (by decide +kernel) rfl) (pa_cons (pe_bltn (v := .ty "tuple") (by rfl) T.n_tuple (by decide +kernel) rfl) pa_nil))) pa_nil))) (pe_one (pe_chain op_le op_le (pv 1) (pe_callB call_len_seq (by rfl) T.n_len (by decide +kernel) (pa_cons (pv 0) pa_nil)) (pv 2)))))), ?_⟩
  obtain ⟨x, lo, hi, rfl, hp, k⟩ := h
  simp only [tSeq, tAsg, tDrop, tRet, tRetN, tIfS, tNext, tTest, tB, tNot, tAnd, tOr, tChain, tIf, tAndV, tOrV, tNotV, tOp, tUn, tCB, tCons, tNil, tVar, tC, tCall, tCallS, gName, rI, rI0, rU, rEq, rNe, tTup, tLst, gSub, rSetL, rIxL, rIxT, L2.start, List.map_cons, List.map_nil, List.length_cons, List.length_nil, Nat.reduceAdd, Nat.reduceSub, List.replicate_succ, List.replicate_zero, List.getElem?_cons_zero, List.getElem?_cons_succ, List.set_cons_zero, List.set_cons_succ, Option.some.injEq, exists_eq_left', exists_eq_left, exists_and_left, V.int.injEq, V.bl.injEq, V.ref.injEq, V.str.injEq, List.cons.injEq, and_true, true_and, List.nil_append, List.cons_append, List.append_nil, reduceCtorEq, false_and, exists_false, or_false, false_or, and_false, Int.reduceNeg, decide_eq_true_eq, Bool.not_eq_true', decide_eq_false_iff_not, and_assoc, tYes, ↓reduceIte, wipe, Bool.false_eq_true, Bool.true_eq_false, cxOf, false_implies, true_implies, implies_true, forall_const]
  refine ⟨by decide, fun p hq => ?_⟩
  have s := Same.new (o := HO.tup [V.ty "list", V.ty "tuple"]) hq
  have eT : upd H p (HO.tup [V.ty "list", V.ty "tuple"]) p = some (HO.tup [V.ty "list", V.ty "tuple"]) := upd_same
  generalize upd H p (HO.tup [V.ty "list", V.ty "tuple"]) = H1 at s eT ⊢
  rcases k with ⟨a, xs, rfl, hr, k⟩ | ⟨n, k⟩
  · have hr1 := hr.same s
    refine isiT_yes hr1 eT ⟨true, rfl, ?_⟩
    rw [if_pos rfl]
    refine ⟨a, rfl, xs, hr1.sq, ?_⟩
    by_cases c : lo ≤ (xs.length : Int)
    · rw [if_pos c]
      have e := k H1 s
      rw [decide_eq_true c, Bool.true_and] at e
      exact e
    · rw [if_neg c]
      have e := k H1 s
      rw [decide_eq_false c, Bool.false_and] at e
      exact e
  · refine isiT_no (hp.same s) (fun a xs e r => ?_) eT ⟨false, rfl, ?_⟩
    · subst e
      rcases hp with ⟨ys, h⟩ | ⟨ys, h⟩ | ⟨ys, h⟩
      · exact n a ys rfl (.inl h)
      · exact n a ys rfl (.inr h)
      · rcases r with r | r <;> (rw [s _ _ h] at r; cases r)
    · rw [if_neg (fun z => by cases z)]
      exact k H1 s
/-- what is handed in as a pool: plain, and what it holds is plain -/
def Arg (H : Hp) (x : V) : Prop := Plain H x ∧ ∀ a xs, x = .ref a → Row H a xs → ∀ y, y ∈ xs → Plain H y
/-- whether it is a row of at most twelve things -/
def FewRow (H : Hp) (x : V) : Prop := ∃ a xs, x = .ref a ∧ Row H a xs ∧ xs.length ≤ 12
def bad2 (i : Int) (w : Str) : HO := .xd [("what", .str w), ("place", .int i)]
theorem ints_of {m : Int} : ∀ {xs : List V}, (∀ z, z ∈ xs → whole z 1 m = true) → ∃ ns : List Int, xs = ns.map V.int ∧ ∀ n, n ∈ ns → 1 ≤ n ∧ n ≤ m
  | [], _ => ⟨[], rfl, fun _ h => absurd h List.not_mem_nil⟩
  | x :: xs, h => by
    obtain ⟨i, rfl, i0, i1⟩ := whole_of (h x List.mem_cons_self)
    obtain ⟨ns, rfl, b⟩ := ints_of fun z hz => h z (List.mem_cons_of_mem _ hz)
    refine ⟨i :: ns, rfl, fun n hn => ?_⟩
    rcases List.mem_cons.mp hn with rfl | hn
    · exact ⟨i0, i1⟩
    · exact b n hn
def sp_check_pool (_ : PySem.W.Frag) (cB : Addr) : Sp := fun vs H Q E => ∃ x : V, vs = [x] ∧ Arg H x ∧
  (¬ FewRow H x → ∀ H' d, Same H H' → H' d = none → E (.ref cB) (some d) (upd H' d (bad2 0 "many"))) ∧
  (∀ a xs (i : Nat) y, x = .ref a → Row H a xs → xs.length ≤ 12 → (∀ j z, j < i → xs[j]? = some z → whole z 1 1000000000 = true) → xs[i]? = some y → whole y 1 1000000000 = false → ∀ H' d, Same H H' → H' d = none → E (.ref cB) (some d) (upd H' d (bad2 i "coin"))) ∧
  ∀ (a : Addr) (ns : List Int), x = .ref a → Row H a (ns.map V.int) → ns.length ≤ 12 → (∀ n, n ∈ ns → 1 ≤ n ∧ n ≤ 1000000000) → ∀ (H' : Hp) (b : Addr) (ms : List Int), Same H H' → TupN H' b (ms.map V.int) → ms.Perm ns → ms.Pairwise (· ≤ ·) → Q (.ref b) H'
theorem len_check_pool {vs H Q E} (h : sp_check_pool K cBadPool vs H Q E) : vs.length = 1 := by
  obtain ⟨_, rfl, _⟩ := h; rfl
theorem ok_check_pool {f : Addr} {fd : FuncData} (F : Fun K "check_pool" "check_pool" s_check_pool f fd) (T : Txt K mg cBadPool cBadLot) : FnOk P w K mg base (L2.CX P w) 3 f fd ps_check_pool (sp_check_pool K cBadPool) := by
  obtain ⟨f_is_row, fd_is_row, F_is_row, m_is_row, b_is_row⟩ := T.d_is_row
  have G_is_row : FnOk P w K mg base CX0 1 f_is_row fd_is_row ps_is_row (sp_is_row K) := ok_is_row F_is_row T
  obtain ⟨f_is_whole, fd_is_whole, F_is_whole, m_is_whole, b_is_whole⟩ := T.d_is_whole
  have G_is_whole : FnOk P w K mg base CX0 2 f_is_whole fd_is_whole ps_is_whole (sp_is_whole K) := ok_is_whole F_is_whole T
  obtain ⟨f_i_BadPool, fd_i_BadPool, F_i_BadPool, b_i_BadPool, iC_BadPool, tI_BadPool⟩ := T.y_BadPool.ini
  have G_i_BadPool : FnOk P w K mg base CX0 1 f_i_BadPool fd_i_BadPool ps_i_BadPool (spI2 K cBadPool "place" "what") := ok_i_BadPool F_i_BadPool T
  obtain ⟨u_MOST_COINS, c_MOST_COINS, r_MOST_COINS⟩ := T.c_MOST_COINS
  obtain ⟨u_GREATEST_COIN, c_GREATEST_COIN, r_GREATEST_COIN⟩ := T.c_GREATEST_COIN
  refine F.okX (k := 2) sc_check_pool (fun vs H Q E h => len_check_pool h) (fun cdv A outer s H vs Q E hr h => ?_)
  refine ⟨_, (pss_cons (ps_if (pt_not (pt_val (pe_call G_is_row (hr.mono (by decide)) (by rfl) m_is_row F_is_row.kp b_is_row .nil pass0 (pa_cons (pv 0) (pa_cons pe_int (pa_cons (pe_glob rfl c_MOST_COINS r_MOST_COINS) pa_nil)))))) (pss_one (ps_raise rfl (takes_of rfl rfl rfl rfl) (pmk_oex T.y_BadPool.ox iC_BadPool tI_BadPool G_i_BadPool (hr.mono (by decide)) b_i_BadPool .nil pass0 (by rfl) T.y_BadPool.gC (pa_cons pe_int (pa_cons pe_str pa_nil))))) pss_nil)
      (pss_cons (ps_for (passes_of rfl) rfl (pi_enumE (by rfl) T.n_enumerate (pa_cons (pv 0) pa_nil)) (pg_tup rfl (pgs_cons (pg_name (i := 1) sc_check_pool.nd rfl (Or.inl rfl)) (pgs_cons (pg_name (i := 2) sc_check_pool.nd rfl (Or.inl rfl)) pgs_nil)))
      (pss_one (ps_if (pt_not (pt_val (pe_call G_is_whole (hr.mono (by decide)) (by rfl) m_is_whole F_is_whole.kp b_is_whole .nil pass0 (pa_cons (pv 2) (pa_cons pe_int (pa_cons (pe_glob rfl c_GREATEST_COIN r_GREATEST_COIN) pa_nil)))))) (pss_one (ps_raise rfl (takes_of rfl rfl rfl rfl) (pmk_oex T.y_BadPool.ox iC_BadPool tI_BadPool G_i_BadPool (hr.mono (by decide)) b_i_BadPool .nil pass0 (by rfl) T.y_BadPool.gC (pa_cons (pv 1) (pa_cons pe_str pa_nil))))) pss_nil)))
      (pss_one (ps_ret (pe_callTy call_tuple_ofN (by rfl) T.n_tuple (by decide +kernel) (pa_cons (pe_callB cr_sortedE (by rfl) T.n_sorted (by decide +kernel) (pa_cons (pv 0) pa_nil)) pa_nil)))))), ?_⟩
  obtain ⟨x, rfl, hp, q1, q2, q3⟩ := h
  simp only [tSeq, tAsg, tDrop, tRet, tRetN, tIfS, tNext, tTest, tB, tNot, tAnd, tOr, tChain, tIf, tAndV, tOrV, tNotV, tOp, tUn, tCB, tCons, tNil, tVar, tC, tCall, tCallS, gName, rI, rI0, rU, rEq, rNe, tTup, tLst, gSub, rSetL, rIxL, rIxT, L2.start, List.map_cons, List.map_nil, List.length_cons, List.length_nil, Nat.reduceAdd, Nat.reduceSub, List.replicate_succ, List.replicate_zero, List.getElem?_cons_zero, List.getElem?_cons_succ, List.set_cons_zero, List.set_cons_succ, Option.some.injEq, exists_eq_left', exists_eq_left, exists_and_left, V.int.injEq, V.bl.injEq, V.ref.injEq, V.str.injEq, List.cons.injEq, and_true, true_and, List.nil_append, List.cons_append, List.append_nil, reduceCtorEq, false_and, exists_false, or_false, false_or, and_false, Int.reduceNeg, decide_eq_true_eq, Bool.not_eq_true', decide_eq_false_iff_not, and_assoc, tYes, ↓reduceIte, wipe, Bool.false_eq_true, Bool.true_eq_false, cxOf, false_implies, true_implies, implies_true, forall_const, sp_is_row]
  refine ⟨hp.1, ?_⟩
  have T0 := T
  by_cases c : ∃ a xs, x = .ref a ∧ Row H a xs
  · obtain ⟨a, xs, rfl, hr⟩ := c
    refine .inl ⟨a, rfl, xs, hr, fun H1 s => ?_⟩
    by_cases hl : xs.length ≤ 12
    case neg =>
      have e : (decide (0 ≤ (xs.length : Int)) && decide ((xs.length : Int) ≤ 12)) = false := by rw [decide_eq_false (show ¬ (xs.length : Int) ≤ 12 by omega), Bool.and_false]
      rw [if_pos e]
      refine raise2 T0.y_BadPool.ox T0.f_BadPool_place T0.f_BadPool_what fun d hd => q1 (fun f => ?_) H1 d s hd
      obtain ⟨b, ys, e1, e2, e3⟩ := f
      cases e1
      rw [Row.one hr e2] at hl
      exact hl e3
    have e : ¬ (decide (0 ≤ (xs.length : Int)) && decide ((xs.length : Int) ≤ 12)) = false := by rw [decide_eq_true (show (0 : Int) ≤ (xs.length : Int) by omega), decide_eq_true (show (xs.length : Int) ≤ 12 by omega)]; decide
    rw [if_neg e]
    refine ⟨_, rfl, a, xs, rfl, ?_⟩
    rcases hr.same s with e1 | e1
    · refine .inr ⟨SqT.of e1, for_enumT (K := K) (a := a) (xs := xs) (fun i z h => ∃ v u, z = [some (.ref a), v, u] ∧ Same H1 h ∧ ∀ j z, j < i → xs[j]? = some z → whole z 1 1000000000 = true) ⟨none, none, rfl, Same.refl H1, fun j _ hj => absurd hj (Nat.not_lt_zero j)⟩ (fun i z h _ ⟨_, _, _, s2, _⟩ => SqT.of (s2 _ _ e1)) ?_ ?_⟩
      · rintro i y T z h hi hT ⟨v, u, rfl, s2, ok⟩
        have sh := s.trans s2
        refine ⟨T, _, rfl, SqT.of upd_same, rfl, _, _, rfl, _, _, rfl, rfl, ?_⟩
        simp only [tSeq, tAsg, tDrop, tRet, tRetN, tIfS, tNext, tTest, tB, tNot, tAnd, tOr, tChain, tIf, tAndV, tOrV, tNotV, tOp, tUn, tCB, tCons, tNil, tVar, tC, tCall, tCallS, gName, rI, rI0, rU, rEq, rNe, tTup, tLst, gSub, rSetL, rIxL, rIxT, L2.start, List.map_cons, List.map_nil, List.length_cons, List.length_nil, Nat.reduceAdd, Nat.reduceSub, List.replicate_succ, List.replicate_zero, List.getElem?_cons_zero, List.getElem?_cons_succ, List.set_cons_zero, List.set_cons_succ, Option.some.injEq, exists_eq_left', exists_eq_left, exists_and_left, V.int.injEq, V.bl.injEq, V.ref.injEq, V.str.injEq, List.cons.injEq, and_true, true_and, List.nil_append, List.cons_append, List.append_nil, reduceCtorEq, false_and, exists_false, or_false, false_or, and_false, Int.reduceNeg, decide_eq_true_eq, Bool.not_eq_true', decide_eq_false_iff_not, and_assoc, tYes, ↓reduceIte, wipe, Bool.false_eq_true, Bool.true_eq_false, cxOf, false_implies, true_implies, implies_true, forall_const, sp_is_whole]
        refine ⟨((hp.2 a xs rfl hr y (List.mem_of_getElem? hi)).same sh).same (Same.new hT), ?_⟩
        split
        · rename_i w0
          exact ⟨_, rfl, raise2 T0.y_BadPool.ox T0.f_BadPool_place T0.f_BadPool_what fun d hd => q2 a xs i y rfl hr hl ok hi w0 _ d (sh.trans (Same.new hT)) hd⟩
        · rename_i w1
          refine ⟨s2.trans (Same.new hT), fun j x hj hx => ?_⟩
          rcases Nat.lt_succ_iff_lt_or_eq.mp hj with g | g
          · exact ok j x g hx
          · rw [g, hi] at hx
            cases hx
            simpa using w1
      · rintro z h ⟨v, u, rfl, s2, ok⟩
        have sh := s.trans s2
        obtain ⟨ns, rfl, nb⟩ := ints_of (m := 1000000000) fun x hx => by
          obtain ⟨j, hj, ej⟩ := List.mem_iff_getElem.mp hx
          exact ok j x hj (by rw [List.getElem?_eq_getElem hj, ej])
        simp only [tSeq, tAsg, tDrop, tRet, tRetN, tIfS, tNext, tTest, tB, tNot, tAnd, tOr, tChain, tIf, tAndV, tOrV, tNotV, tOp, tUn, tCB, tCons, tNil, tVar, tC, tCall, tCallS, gName, rI, rI0, rU, rEq, rNe, tTup, tLst, gSub, rSetL, rIxL, rIxT, L2.start, List.map_cons, List.map_nil, List.length_cons, List.length_nil, Nat.reduceAdd, Nat.reduceSub, List.replicate_succ, List.replicate_zero, List.getElem?_cons_zero, List.getElem?_cons_succ, List.set_cons_zero, List.set_cons_succ, Option.some.injEq, exists_eq_left', exists_eq_left, exists_and_left, V.int.injEq, V.bl.injEq, V.ref.injEq, V.str.injEq, List.cons.injEq, and_true, true_and, List.nil_append, List.cons_append, List.append_nil, reduceCtorEq, false_and, exists_false, or_false, false_or, and_false, Int.reduceNeg, decide_eq_true_eq, Bool.not_eq_true', decide_eq_false_iff_not, and_assoc, tYes, ↓reduceIte, wipe, Bool.false_eq_true, Bool.true_eq_false, cxOf, false_implies, true_implies, implies_true, forall_const, rSortedE]
        refine ⟨ns, (hr.same sh).sq, fun ms b p1 p2 hb => ⟨_, SqL.of upd_same, fun l o hl2 o1 o2 => ?_⟩⟩
        exact q3 a ns rfl hr (by rw [List.length_map] at hl; exact hl) nb _ l ms (sh.trans ((Same.new hb).trans (Same.new hl2))) (TupN.at o1 o2) p1 p2
    · refine .inl ⟨SqL.of e1, for_enum (K := K) (a := a) (xs := xs) (fun i z h => ∃ v u, z = [some (.ref a), v, u] ∧ Same H1 h ∧ ∀ j z, j < i → xs[j]? = some z → whole z 1 1000000000 = true) ⟨none, none, rfl, Same.refl H1, fun j _ hj => absurd hj (Nat.not_lt_zero j)⟩ (fun i z h _ ⟨_, _, _, s2, _⟩ => SqL.of (s2 _ _ e1)) ?_ ?_⟩
      · rintro i y T z h hi hT ⟨v, u, rfl, s2, ok⟩
        have sh := s.trans s2
        refine ⟨T, _, rfl, SqT.of upd_same, rfl, _, _, rfl, _, _, rfl, rfl, ?_⟩
        simp only [tSeq, tAsg, tDrop, tRet, tRetN, tIfS, tNext, tTest, tB, tNot, tAnd, tOr, tChain, tIf, tAndV, tOrV, tNotV, tOp, tUn, tCB, tCons, tNil, tVar, tC, tCall, tCallS, gName, rI, rI0, rU, rEq, rNe, tTup, tLst, gSub, rSetL, rIxL, rIxT, L2.start, List.map_cons, List.map_nil, List.length_cons, List.length_nil, Nat.reduceAdd, Nat.reduceSub, List.replicate_succ, List.replicate_zero, List.getElem?_cons_zero, List.getElem?_cons_succ, List.set_cons_zero, List.set_cons_succ, Option.some.injEq, exists_eq_left', exists_eq_left, exists_and_left, V.int.injEq, V.bl.injEq, V.ref.injEq, V.str.injEq, List.cons.injEq, and_true, true_and, List.nil_append, List.cons_append, List.append_nil, reduceCtorEq, false_and, exists_false, or_false, false_or, and_false, Int.reduceNeg, decide_eq_true_eq, Bool.not_eq_true', decide_eq_false_iff_not, and_assoc, tYes, ↓reduceIte, wipe, Bool.false_eq_true, Bool.true_eq_false, cxOf, false_implies, true_implies, implies_true, forall_const, sp_is_whole]
        refine ⟨((hp.2 a xs rfl hr y (List.mem_of_getElem? hi)).same sh).same (Same.new hT), ?_⟩
        split
        · rename_i w0
          exact ⟨_, rfl, raise2 T0.y_BadPool.ox T0.f_BadPool_place T0.f_BadPool_what fun d hd => q2 a xs i y rfl hr hl ok hi w0 _ d (sh.trans (Same.new hT)) hd⟩
        · rename_i w1
          refine ⟨s2.trans (Same.new hT), fun j x hj hx => ?_⟩
          rcases Nat.lt_succ_iff_lt_or_eq.mp hj with g | g
          · exact ok j x g hx
          · rw [g, hi] at hx
            cases hx
            simpa using w1
      · rintro z h ⟨v, u, rfl, s2, ok⟩
        have sh := s.trans s2
        obtain ⟨ns, rfl, nb⟩ := ints_of (m := 1000000000) fun x hx => by
          obtain ⟨j, hj, ej⟩ := List.mem_iff_getElem.mp hx
          exact ok j x hj (by rw [List.getElem?_eq_getElem hj, ej])
        simp only [tSeq, tAsg, tDrop, tRet, tRetN, tIfS, tNext, tTest, tB, tNot, tAnd, tOr, tChain, tIf, tAndV, tOrV, tNotV, tOp, tUn, tCB, tCons, tNil, tVar, tC, tCall, tCallS, gName, rI, rI0, rU, rEq, rNe, tTup, tLst, gSub, rSetL, rIxL, rIxT, L2.start, List.map_cons, List.map_nil, List.length_cons, List.length_nil, Nat.reduceAdd, Nat.reduceSub, List.replicate_succ, List.replicate_zero, List.getElem?_cons_zero, List.getElem?_cons_succ, List.set_cons_zero, List.set_cons_succ, Option.some.injEq, exists_eq_left', exists_eq_left, exists_and_left, V.int.injEq, V.bl.injEq, V.ref.injEq, V.str.injEq, List.cons.injEq, and_true, true_and, List.nil_append, List.cons_append, List.append_nil, reduceCtorEq, false_and, exists_false, or_false, false_or, and_false, Int.reduceNeg, decide_eq_true_eq, Bool.not_eq_true', decide_eq_false_iff_not, and_assoc, tYes, ↓reduceIte, wipe, Bool.false_eq_true, Bool.true_eq_false, cxOf, false_implies, true_implies, implies_true, forall_const, rSortedE]
        refine ⟨ns, (hr.same sh).sq, fun ms b p1 p2 hb => ⟨_, SqL.of upd_same, fun l o hl2 o1 o2 => ?_⟩⟩
        exact q3 a ns rfl hr (by rw [List.length_map] at hl; exact hl) nb _ l ms (sh.trans ((Same.new hb).trans (Same.new hl2))) (TupN.at o1 o2) p1 p2
  · refine .inr ⟨fun a xs e1 e2 => c ⟨a, xs, e1, e2⟩, fun H1 s => raise2 T0.y_BadPool.ox T0.f_BadPool_place T0.f_BadPool_what fun d hd => q1 (fun f => ?_) H1 d s hd⟩
    obtain ⟨b, ys, e1, e2, _⟩ := f
    exact c ⟨b, ys, e1, e2⟩
end
end My
set_option Elab.async false
set_option linter.all false
set_option maxRecDepth 100000
set_option maxHeartbeats 4000000
namespace My
open PySem PySem.Spec PyProof.Rows L2 Gen
section
variable {P : Program} {w : World} {K : PySem.W.Frag} {mg : Str → Option Value} {base : Heap} { cBadPool cBadLot : Addr}
abbrev sp_l_mix (_ : PySem.W.Frag) : Sp := spMix
theorem len_l_mix {vs H Q E} (h : sp_l_mix K vs H Q E) : vs.length = 2 := by
  obtain ⟨_, _, rfl, _⟩ := h; rfl
theorem ok_l_mix {f : Addr} {fd : FuncData} (F : Fun K "_law_mix" "_law_mix" s_l_mix f fd) (T : Txt K mg cBadPool cBadLot) : FnOk P w K mg base CX0 1 f fd ps_l_mix (sp_l_mix K) := by
  refine F.ok (k := 0) sc_l_mix (fun vs H Q E h => len_l_mix h) (fun cdv A outer s H vs Q E hr h => ?_)
  refine ⟨_, (pss_cons (ps_set (i := 2) sc_l_mix.nd rfl (Or.inl rfl) (pe_op op_mod (pe_callTy call_int1 (by rfl) T.n_int (by decide +kernel) (pa_cons (pe_op op_add (pe_op op_add (pe_op op_mul (pv 0) pe_int) (pe_op op_mul (pv 1) pe_int)) pe_int) pa_nil)) pe_int))
      (pss_cons (ps_set (i := 3) sc_l_mix.nd rfl (Or.inl rfl) (pe_op op_mod (pe_callTy call_int1 (by rfl) T.n_int (by decide +kernel) (pa_cons (pe_op op_add (pe_op op_add (pe_op op_mul (pv 2) (pv 2)) (pe_op op_mul (pe_op op_fdivW (pv 2) pe_int) pe_int)) (pe_op op_mul (pv 1) pe_int)) pa_nil)) pe_int))
      (pss_one (ps_ret (pe_op op_fdivW (pe_op op_mod (pe_callTy call_int1 (by rfl) T.n_int (by decide +kernel) (pa_cons (pe_op op_add (pe_op op_fdivW (pe_op op_mul (pv 3) (pv 3)) pe_int) (pv 2)) pa_nil)) pe_int) pe_int))))), ?_⟩
  obtain ⟨n, t, rfl, n0, n1, t0, t1, q⟩ := h
  simp only [tSeq, tAsg, tDrop, tRet, tRetN, tIfS, tNext, tTest, tB, tNot, tAnd, tOr, tChain, tIf, tAndV, tOrV, tNotV, tOp, tUn, tCB, tCons, tNil, tVar, tC, tCall, tCallS, gName, rI, rI0, rU, rEq, rNe, tTup, tLst, gSub, rSetL, rIxL, rIxT, L2.start, List.map_cons, List.map_nil, List.length_cons, List.length_nil, Nat.reduceAdd, Nat.reduceSub, List.replicate_succ, List.replicate_zero, List.getElem?_cons_zero, List.getElem?_cons_succ, List.set_cons_zero, List.set_cons_succ, Option.some.injEq, exists_eq_left', exists_eq_left, exists_and_left, V.int.injEq, V.bl.injEq, V.ref.injEq, V.str.injEq, List.cons.injEq, and_true, true_and, List.nil_append, List.cons_append, List.append_nil, reduceCtorEq, false_and, exists_false, or_false, false_or, and_false, Int.reduceNeg, decide_eq_true_eq, Bool.not_eq_true', decide_eq_false_iff_not, and_assoc, tYes, ↓reduceIte, wipe, Bool.false_eq_true, Bool.true_eq_false, cxOf, false_implies, true_implies, implies_true, forall_const]
  have a0 := Int.emod_nonneg (n * 48271 + t * 16807 + 11) (b := 2147483647) (by decide)
  have a1 := Int.emod_lt_of_pos (n * 48271 + t * 16807 + 11) (b := 2147483647) (by decide)
  generalize (n * 48271 + t * 16807 + 11) % 2147483647 = x at a0 a1 ⊢
  refine ⟨cmr (by decide) (by decide), cmr (by decide) (by decide), by decide, cml (by omega) (by omega), cdw (by decide) (by decide), cmr (by decide) (by decide), cmr (by decide) (by decide), by decide, ?_⟩
  have b0 := Int.emod_nonneg (x * x + x / 127 * 40692 + t * 69621) (b := 2147483399) (by decide)
  have b1 := Int.emod_lt_of_pos (x * x + x / 127 * 40692 + t * 69621) (b := 2147483399) (by decide)
  generalize (x * x + x / 127 * 40692 + t * 69621) % 2147483399 = y at b0 b1 ⊢
  exact ⟨cml (by omega) (by omega), cdw (by decide) (by decide), by decide, cdw (by decide) (by decide), q _ (Int.ediv_nonneg (Int.emod_nonneg _ (by decide)) (by decide))⟩
theorem abs_take {ns : List Int} {i : Nat} {c : Int} (h : ns[i]? = some c) : ((ns.take (i + 1)).map fun c => V.int (if c < 0 then -c else c)) = ((ns.take i).map fun c => V.int (if c < 0 then -c else c)) ++ [V.int (if c < 0 then -c else c)] := by
  rw [List.take_add_one, h, List.map_append]
  rfl
abbrev sp_l_hand (K : PySem.W.Frag) : Sp := spHand K
theorem len_l_hand {vs H Q E} (h : sp_l_hand K vs H Q E) : vs.length = 1 := by
  obtain ⟨_, _, rfl, _⟩ := h; rfl
theorem ok_l_hand {f : Addr} {fd : FuncData} (F : Fun K "_law_hand" "_law_hand" s_l_hand f fd) (T : Txt K mg cBadPool cBadLot) : FnOk P w K mg base CX0 1 f fd ps_l_hand (sp_l_hand K) := by
  refine F.ok (k := 0) sc_l_hand (fun vs H Q E h => len_l_hand h) (fun cdv A outer s H vs Q E hr h => ?_)
  refine ⟨_, (pss_cons (ps_set (i := 1) sc_l_hand.nd rfl (Or.inl rfl) pe_int)
      (pss_cons (ps_for PassesOwn.never rfl (pi_enum (by rfl) T.n_enumerate (pa_cons (pv 0) pa_nil)) (pg_tup rfl (pgs_cons (pg_name (i := 2) sc_l_hand.nd rfl (Or.inl rfl)) (pgs_cons (pg_name (i := 3) sc_l_hand.nd rfl (Or.inl rfl)) pgs_nil)))
      (pss_one (ps_set (i := 1) sc_l_hand.nd rfl (Or.inl rfl) (pe_op op_mod (pe_callTy call_int1 (by rfl) T.n_int (by decide +kernel) (pa_cons (pe_op op_add (pe_op op_mul (pv 1) pe_int) (pe_op op_mul (pe_callTy call_int1 (by rfl) T.n_int (by decide +kernel) (pa_cons (pv 3) pa_nil)) (pe_op op_add (pv 2) pe_int))) pa_nil)) pe_int))))
      (pss_one (ps_ret (pe_lst (pa_cons (pe_lc (own := [("_law_cell", 3)]) (g := gName 3) (tt := tYes) rfl sc_l_hand.nd (pi_list (pv 0)) (blkOk_by (N := nm_l_hand) (sc := defScope s_l_hand) (by decide +kernel)) (fun _ _ _ _ _ => (pg_name (i := 3) sc_l_hand.nd rfl (Or.inl rfl))) (fun _ _ _ _ _ => pts_nil) (fun _ _ _ _ _ => (pe_callB call_abs (by rfl) T.n_abs (by decide +kernel) (pa_cons (pe_callTy call_int1 (by rfl) T.n_int (by decide +kernel) (pa_cons (pv 3) pa_nil)) pa_nil)))) (pa_cons pe_int (pa_cons pe_int (pa_cons (pv 1) pa_nil))))))))), ?_⟩
  obtain ⟨a, ns, rfl, hS, hn, q⟩ := h
  simp only [tSeq, tAsg, tDrop, tRet, tRetN, tIfS, tNext, tTest, tB, tNot, tAnd, tOr, tChain, tIf, tAndV, tOrV, tNotV, tOp, tUn, tCB, tCons, tNil, tVar, tC, tCall, tCallS, gName, rI, rI0, rU, rEq, rNe, tTup, tLst, gSub, rSetL, rIxL, rIxT, L2.start, List.map_cons, List.map_nil, List.length_cons, List.length_nil, Nat.reduceAdd, Nat.reduceSub, List.replicate_succ, List.replicate_zero, List.getElem?_cons_zero, List.getElem?_cons_succ, List.set_cons_zero, List.set_cons_succ, Option.some.injEq, exists_eq_left', exists_eq_left, exists_and_left, V.int.injEq, V.bl.injEq, V.ref.injEq, V.str.injEq, List.cons.injEq, and_true, true_and, List.nil_append, List.cons_append, List.append_nil, reduceCtorEq, false_and, exists_false, or_false, false_or, and_false, Int.reduceNeg, decide_eq_true_eq, Bool.not_eq_true', decide_eq_false_iff_not, and_assoc, tYes, ↓reduceIte, wipe, Bool.false_eq_true, Bool.true_eq_false, cxOf, false_implies, true_implies, implies_true, forall_const]
  refine ⟨_, rfl, a, _, rfl, hS, for_enum (K := K) (a := a) (xs := ns.map V.int) (fun i z h => ∃ (t : Int) (v u : Option V), z = [some (.ref a), some (.int t), v, u] ∧ 0 ≤ t ∧ t < 2147483629 ∧ Same H h)
    ⟨0, none, none, rfl, by decide, by decide, Same.refl H⟩ (fun i z h _ ⟨_, _, _, _, _, _, s⟩ => s.seq hS) ?_ ?_⟩
  · rintro i y T z h hi hT ⟨t, v, u, rfl, t0, t1, s⟩
    obtain ⟨c, hc, rfl⟩ := nat_map hi
    have hil := (List.getElem?_eq_some_iff.mp hc).1
    refine ⟨T, _, rfl, SqT.of upd_same, rfl, _, _, rfl, _, _, rfl, rfl, ?_⟩
    simp only [tSeq, tAsg, tDrop, tRet, tRetN, tIfS, tNext, tTest, tB, tNot, tAnd, tOr, tChain, tIf, tAndV, tOrV, tNotV, tOp, tUn, tCB, tCons, tNil, tVar, tC, tCall, tCallS, gName, rI, rI0, rU, rEq, rNe, tTup, tLst, gSub, rSetL, rIxL, rIxT, L2.start, List.map_cons, List.map_nil, List.length_cons, List.length_nil, Nat.reduceAdd, Nat.reduceSub, List.replicate_succ, List.replicate_zero, List.getElem?_cons_zero, List.getElem?_cons_succ, List.set_cons_zero, List.set_cons_succ, Option.some.injEq, exists_eq_left', exists_eq_left, exists_and_left, V.int.injEq, V.bl.injEq, V.ref.injEq, V.str.injEq, List.cons.injEq, and_true, true_and, List.nil_append, List.cons_append, List.append_nil, reduceCtorEq, false_and, exists_false, or_false, false_or, and_false, Int.reduceNeg, decide_eq_true_eq, Bool.not_eq_true', decide_eq_false_iff_not, and_assoc, tYes, ↓reduceIte, wipe, Bool.false_eq_true, Bool.true_eq_false, cxOf, false_implies, true_implies, implies_true, forall_const]
    exact ⟨cmr (by decide) (by decide), cmr (by omega) (by omega), by decide, Int.emod_nonneg _ (by decide), Int.emod_lt_of_pos _ (by decide), s.trans (Same.new hT)⟩
  · rintro z h ⟨t, v, u, rfl, t0, t1, s⟩
    simp only [tSeq, tAsg, tDrop, tRet, tRetN, tIfS, tNext, tTest, tB, tNot, tAnd, tOr, tChain, tIf, tAndV, tOrV, tNotV, tOp, tUn, tCB, tCons, tNil, tVar, tC, tCall, tCallS, gName, rI, rI0, rU, rEq, rNe, tTup, tLst, gSub, rSetL, rIxL, rIxT, L2.start, List.map_cons, List.map_nil, List.length_cons, List.length_nil, Nat.reduceAdd, Nat.reduceSub, List.replicate_succ, List.replicate_zero, List.getElem?_cons_zero, List.getElem?_cons_succ, List.set_cons_zero, List.set_cons_succ, Option.some.injEq, exists_eq_left', exists_eq_left, exists_and_left, V.int.injEq, V.bl.injEq, V.ref.injEq, V.str.injEq, List.cons.injEq, and_true, true_and, List.nil_append, List.cons_append, List.append_nil, reduceCtorEq, false_and, exists_false, or_false, false_or, and_false, Int.reduceNeg, decide_eq_true_eq, Bool.not_eq_true', decide_eq_false_iff_not, and_assoc, tYes, ↓reduceIte, wipe, Bool.false_eq_true, Bool.true_eq_false, cxOf, false_implies, true_implies, implies_true, forall_const]
    refine ⟨_, rfl, a, rfl, ⟨_, s.seq hS⟩, fun D hD => lc_list (K := K) (a := a) (xs := ns.map V.int) (fun i h' => Same h h' ∧ h' D = some (.lst ((ns.take i).map fun c => V.int (if c < 0 then -c else c)))) ⟨Same.new hD, upd_same⟩ (fun i h' _ ⟨s', _⟩ => (s.trans s').seq hS) ?_ ?_⟩
    · rintro i y h' hi ⟨s', e'⟩
      obtain ⟨c, hc, rfl⟩ := nat_map hi
      have hil := (List.getElem?_eq_some_iff.mp hc).1
      simp only [tSeq, tAsg, tDrop, tRet, tRetN, tIfS, tNext, tTest, tB, tNot, tAnd, tOr, tChain, tIf, tAndV, tOrV, tNotV, tOp, tUn, tCB, tCons, tNil, tVar, tC, tCall, tCallS, gName, rI, rI0, rU, rEq, rNe, tTup, tLst, gSub, rSetL, rIxL, rIxT, L2.start, List.map_cons, List.map_nil, List.length_cons, List.length_nil, Nat.reduceAdd, Nat.reduceSub, List.replicate_succ, List.replicate_zero, List.getElem?_cons_zero, List.getElem?_cons_succ, List.set_cons_zero, List.set_cons_succ, Option.some.injEq, exists_eq_left', exists_eq_left, exists_and_left, V.int.injEq, V.bl.injEq, V.ref.injEq, V.str.injEq, List.cons.injEq, and_true, true_and, List.nil_append, List.cons_append, List.append_nil, reduceCtorEq, false_and, exists_false, or_false, false_or, and_false, Int.reduceNeg, decide_eq_true_eq, Bool.not_eq_true', decide_eq_false_iff_not, and_assoc, tYes, ↓reduceIte, wipe, Bool.false_eq_true, Bool.true_eq_false, cxOf, false_implies, true_implies, implies_true, forall_const]
      refine ⟨_, e', by rw [List.length_map, List.length_take]; exact small1000 (by omega), fun b o e => ?_, by rw [upd_same, abs_take hc]⟩
      rw [upd_ne (ne_of_none e hD)]
      exact s' b o e
    · rintro h' ⟨s', e'⟩
      refine ⟨by decide, fun p hp => q p D _ (s.trans (s'.trans (Same.new hp))) ⟨ns.map fun c => if c < 0 then -c else c, 0, 0, t, upd_same, ?_, by rw [List.length_map]; exact hn, ?_, by omega, by omega, by omega, t0, t1⟩⟩
      · rw [upd_ne (ne_of_none e' hp), e', List.length_map, List.take_length, List.map_map]
        rfl
      · intro c hc
        obtain ⟨b, _, rfl⟩ := List.mem_map.mp hc
        split <;> omega
abbrev sp_l_draw (_ : PySem.W.Frag) : Sp := spDraw
theorem len_l_draw {vs H Q E} (h : sp_l_draw K vs H Q E) : vs.length = 2 := by
  obtain ⟨_, _, _, rfl, _⟩ := h; rfl
theorem ok_l_draw {f : Addr} {fd : FuncData} (F : Fun K "_law_draw" "_law_draw" s_l_draw f fd) (T : Txt K mg cBadPool cBadLot) : FnOk P w K mg base CX0 2 f fd ps_l_draw (sp_l_draw K) := by
  obtain ⟨f_l_mix, fd_l_mix, F_l_mix, m_l_mix, b_l_mix⟩ := T.d_l_mix
  have G_l_mix : FnOk P w K mg base CX0 1 f_l_mix fd_l_mix ps_l_mix (sp_l_mix K) := ok_l_mix F_l_mix T
  refine F.ok (k := 1) sc_l_draw (fun vs H Q E h => len_l_draw h) (fun cdv A outer s H vs Q E hr h => ?_)
  refine ⟨_, (pss_cons (ps_if (PW.pt (pw_and (pt_cmpR op_eq (pe_ix ix_list (pv 0) pe_int (fun _ _ => rfl)) pe_int (nomark _)) (pw_and1 (pt_cmpR op_lt (pe_ix ix_list (pv 0) pe_int (fun _ _ => rfl)) (pe_callB call_len_seq (by rfl) T.n_len (by decide +kernel) (pa_cons (pe_ix ix_list (pv 0) pe_int (fun _ _ => rfl)) pa_nil)) (nomark _))))) (pss_cons (ps_set (i := 2) sc_l_draw.nd rfl (Or.inl rfl) (pe_ix ix_list (pe_ix ix_list (pv 0) pe_int (fun _ _ => rfl)) (pe_ix ix_list (pv 0) pe_int (fun _ _ => rfl)) (fun _ _ => rfl)))
      (pss_cons (ps_asg (pe_op op_add (pe_ix ix_list (pv 0) pe_int (fun _ _ => rfl)) pe_int) (pg_sub (pv 0) pe_int set_list))
      (pss_cons (ps_if (pt_cmpR op_lt (pv 2) (pe_op op_pow pe_int pe_int) (nomark _)) (pss_one (ps_ret (pe_op op_mod (pe_callTy call_int1 (by rfl) T.n_int (by decide +kernel) (pa_cons (pe_call G_l_mix (hr.mono (by decide)) (by rfl) m_l_mix F_l_mix.kp b_l_mix .nil pass0 (pa_cons (pe_op op_mod (pe_callTy call_int1 (by rfl) T.n_int (by decide +kernel) (pa_cons (pv 2) pa_nil)) pe_int) (pa_cons (pe_ix ix_list (pv 0) pe_int (fun _ _ => rfl)) pa_nil))) pa_nil)) (pv 1)))) pss_nil)
      (pss_one (ps_asg (pv 2) (pg_sub (pv 0) pe_int set_list)))))) pss_nil)
      (pss_cons (ps_if (pt_cmpR op_gt (pe_ix ix_list (pv 0) pe_int (fun _ _ => rfl)) pe_int (nomark _)) (pss_cons (ps_set (i := 3) sc_l_draw.nd rfl (Or.inl rfl) (pe_ix ix_list (pv 0) pe_int (fun _ _ => rfl)))
      (pss_cons (ps_asg (pe_op op_fdivW (pv 3) (pv 1)) (pg_sub (pv 0) pe_int set_list))
      (pss_one (ps_ret (pe_op op_mod (pe_callTy call_int1 (by rfl) T.n_int (by decide +kernel) (pa_cons (pv 3) pa_nil)) (pv 1)))))) pss_nil)
      (pss_cons (ps_asg (pe_op op_mod (pe_callTy call_int1 (by rfl) T.n_int (by decide +kernel) (pa_cons (pe_op op_add (pe_ix ix_list (pv 0) pe_int (fun _ _ => rfl)) pe_int) pa_nil)) pe_int) (pg_sub (pv 0) pe_int set_list))
      (pss_one (ps_ret (pe_op op_mod (pe_callTy call_int1 (by rfl) T.n_int (by decide +kernel) (pa_cons (pe_call G_l_mix (hr.mono (by decide)) (by rfl) m_l_mix F_l_mix.kp b_l_mix .nil pass0 (pa_cons (pe_ix ix_list (pv 0) pe_int (fun _ _ => rfl)) (pa_cons (pe_ix ix_list (pv 0) pe_int (fun _ _ => rfl)) pa_nil))) pa_nil)) (pv 1))))))), ?_⟩
  obtain ⟨h, q, m, rfl, hh, m0, m1, k⟩ := h
  obtain ⟨cs, i, r, t, h1, h2, cl, c0, i0, il, r0, t0, t1⟩ := hh.ex
  simp only [tSeq, tAsg, tDrop, tRet, tRetN, tIfS, tNext, tTest, tB, tNot, tAnd, tOr, tChain, tIf, tAndV, tOrV, tNotV, tOp, tUn, tCB, tCons, tNil, tVar, tC, tCall, tCallS, gName, rI, rI0, rU, rEq, rNe, tTup, tLst, gSub, rSetL, rIxL, rIxT, L2.start, List.map_cons, List.map_nil, List.length_cons, List.length_nil, Nat.reduceAdd, Nat.reduceSub, List.replicate_succ, List.replicate_zero, List.getElem?_cons_zero, List.getElem?_cons_succ, List.set_cons_zero, List.set_cons_succ, Option.some.injEq, exists_eq_left', exists_eq_left, exists_and_left, V.int.injEq, V.bl.injEq, V.ref.injEq, V.str.injEq, List.cons.injEq, and_true, true_and, List.nil_append, List.cons_append, List.append_nil, reduceCtorEq, false_and, exists_false, or_false, false_or, and_false, Int.reduceNeg, decide_eq_true_eq, Bool.not_eq_true', decide_eq_false_iff_not, and_assoc, tYes, ↓reduceIte, wipe, Bool.false_eq_true, Bool.true_eq_false, cxOf, false_implies, true_implies, implies_true, forall_const, spMix]
  refine ⟨_, SqL.of h1, _, rfl, rfl, ?_⟩
  split
  · rename_i e
    obtain rfl : r = 0 := by injection e
    refine ⟨_, SqL.of h1, _, rfl, _, SqL.of h1, _, rfl, q, rfl, _, .inl (SqL.of h2), i, rfl, ?_⟩
    split
    · rename_i hi
      obtain ⟨j, rfl⟩ := Int.eq_ofNat_of_zero_le i0
      have hj : j < cs.length := by
        rw [List.length_map] at hi
        omega
      have hc' : (cs.map V.int)[j]? = some (.int cs[j]) := by rw [List.getElem?_map, List.getElem?_eq_getElem hj]; rfl
      have cj : 0 ≤ cs[j] := c0 _ (List.getElem_mem hj)
      have e18 : (10 : Int) ^ Int.toNat 18 = 1000000000000000000 := by decide
      refine ⟨_, SqL.of h1, _, rfl, _, SqL.of h1, _, rfl, q, rfl, _, _, rfl, SqL.of h2, _, atI_nat hc', _, SqL.of h1, _, rfl, _, rfl, _, h1, 1, rfl, ⟨by decide, by decide, by decide⟩, cs[j], rfl, ?_⟩
      split
      · refine .inl ⟨cs[j], rfl, by decide, _, SqL.of upd_same, _, rfl, _, rfl, Int.emod_nonneg _ (by decide), Int.lt_trans (Int.emod_lt_of_pos _ (by decide)) (by decide), by omega, by omega, fun r' hr' => ⟨m0, k _ _ (Int.emod_nonneg _ (by omega)) (Int.emod_lt_of_pos _ m0) ?_ But.upd⟩⟩
        exact ⟨cs, (j : Int) + 1, 0, t, upd_same, by rw [upd_ne hh.ne.symm]; exact h2, cl, c0, by omega, by omega, by omega, t0, t1⟩
      · rename_i e2
        rw [e18] at e2
        refine ⟨_, upd_same, 2, rfl, _, SqL.of upd_same, _, rfl, cs[j], rfl, ?_⟩
        rw [if_pos (by omega)]
        refine ⟨_, SqL.of upd_same, _, rfl, cs[j], rfl, cdw m0 m1, _, upd_same, 2, rfl, .inl ⟨cs[j], rfl, m0, k _ _ (Int.emod_nonneg _ (by omega)) (Int.emod_lt_of_pos _ m0) ?_ But.upd.then.then⟩⟩
        exact ⟨cs, (j : Int) + 1, cs[j] / m, t, upd_same, by rw [upd_ne hh.ne.symm, upd_ne hh.ne.symm, upd_ne hh.ne.symm]; exact h2, cl, c0, by omega, by omega, Int.ediv_nonneg cj (by omega), t0, t1⟩
    · rename_i hi
      refine ⟨_, SqL.of h1, _, rfl, 0, rfl, ?_⟩
      rw [if_neg (by decide)]
      refine ⟨_, SqL.of h1, _, rfl, t, rfl, by decide, _, h1, 3, rfl, _, SqL.of upd_same, _, rfl, _, SqL.of upd_same, _, rfl, _, rfl, _, rfl, Int.emod_nonneg _ (by decide), Int.lt_trans (Int.emod_lt_of_pos _ (by decide)) (by decide), by omega, by omega,
        fun r' hr' => ⟨m0, k _ _ (Int.emod_nonneg _ (by omega)) (Int.emod_lt_of_pos _ m0) ?_ But.upd⟩⟩
      exact ⟨cs, i, 0, (t + 1) % 2147483629, upd_same, by rw [upd_ne hh.ne.symm]; exact h2, cl, c0, by omega, by omega, by omega, Int.emod_nonneg _ (by decide), Int.emod_lt_of_pos _ (by decide)⟩
  · rename_i e
    have e' : r ≠ 0 := fun z => e (by rw [z])
    refine ⟨_, SqL.of h1, _, rfl, r, rfl, ?_⟩
    rw [if_pos (by omega)]
    refine ⟨_, SqL.of h1, _, rfl, r, rfl, cdw m0 m1, _, h1, 2, rfl, .inl ⟨r, rfl, m0, k _ _ (Int.emod_nonneg _ (by omega)) (Int.emod_lt_of_pos _ m0) ?_ But.upd⟩⟩
    exact ⟨cs, i, r / m, t, upd_same, by rw [upd_ne hh.ne.symm]; exact h2, cl, c0, by omega, by omega, Int.ediv_nonneg r0 (by omega), t0, t1⟩
end
end My
set_option Elab.async false
set_option linter.all false
set_option maxRecDepth 100000
set_option maxHeartbeats 4000000
namespace My
open PySem PySem.Spec PyProof.Rows L2 Gen
/-! ## lots within coins, and what is left -/
def Wi (cs ls : List Int) : Prop := ∀ x, ls.count x ≤ cs.count x
noncomputable instance {cs ls : List Int} : Decidable (Wi cs ls) := Classical.propDecidable _
theorem wi_nil {cs : List Int} : Wi cs [] := fun _ => Nat.zero_le _
theorem wi_cons {cs : List Int} {l : Int} {ls : List Int} : Wi cs (l :: ls) ↔ l ∈ cs ∧ Wi (cs.erase l) ls := by
  constructor
  · intro h
    have hl : l ∈ cs := List.count_pos_iff.mp (by
      have := h l
      rw [List.count_cons_self] at this
      omega)
    refine ⟨hl, fun x => ?_⟩
    have := h x
    by_cases e : x = l
    · subst e
      rw [List.count_cons_self] at this
      rw [List.count_erase_self]
      omega
    · rw [List.count_cons_of_ne (Ne.symm e)] at this
      rw [List.count_erase_of_ne e]
      exact this
  · rintro ⟨hl, h⟩ x
    have := h x
    by_cases e : x = l
    · subst e
      rw [List.count_erase_self] at this
      rw [List.count_cons_self]
      have := List.count_pos_iff.mpr hl
      omega
    · rw [List.count_erase_of_ne e] at this
      rw [List.count_cons_of_ne (Ne.symm e)]
      exact this
def rst : List Int → List Int → List Int
  | cs, [] => cs
  | cs, l :: ls => rst (cs.erase l) ls
theorem rst_count : ∀ {ls cs : List Int} (x : Int), (rst cs ls).count x = cs.count x - ls.count x
  | [], cs, x => by simp [rst]
  | l :: ls, cs, x => by
    show (rst (cs.erase l) ls).count x = _
    rw [rst_count x]
    by_cases e : x = l
    · subst e
      rw [List.count_erase_self, List.count_cons_self]
      omega
    · rw [List.count_erase_of_ne e, List.count_cons_of_ne (Ne.symm e)]
theorem rst_sorted : ∀ {ls cs : List Int}, cs.Pairwise (· ≤ ·) → (rst cs ls).Pairwise (· ≤ ·)
  | [], _, h => h
  | _ :: ls, _, h => rst_sorted (ls := ls) (h.sublist List.erase_sublist)
theorem rst_mem : ∀ {ls cs : List Int} {x : Int}, x ∈ rst cs ls → x ∈ cs
  | [], _, _, h => h
  | _ :: ls, _, _, h => List.mem_of_mem_erase (rst_mem (ls := ls) h)
theorem rst_len : ∀ {ls cs : List Int}, (rst cs ls).length ≤ cs.length
  | [], _ => Nat.le_refl _
  | l :: ls, cs => Nat.le_trans (rst_len (ls := ls)) (List.length_erase_le ..)
theorem first_at {k : Int} : ∀ {ns : List Int}, k ∈ ns → ∃ j : Nat, ns[j]? = some k ∧ (∀ m : Nat, m < j → ns[m]? ≠ some k) ∧ ns.eraseIdx j = ns.erase k
  | [], h => absurd h List.not_mem_nil
  | n :: ns, h => by
    by_cases e : n = k
    · subst e
      exact ⟨0, rfl, fun m hm => absurd hm (Nat.not_lt_zero m), by simp⟩
    · have h2 : k ∈ ns := by
        rcases List.mem_cons.mp h with h | h
        · exact absurd h.symm e
        · exact h
      obtain ⟨j, h3, h4, h5⟩ := first_at h2
      refine ⟨j + 1, h3, fun m hm => ?_, ?_⟩
      · cases m with
        | zero => exact fun z => e (by injection z)
        | succ m => exact h4 m (by omega)
      · rw [List.eraseIdx_cons_succ, h5, List.erase_cons_tail (by simpa using e)]
theorem sorted_counts {a b : List Int} (h1 : a.Pairwise (· ≤ ·)) (h2 : b.Pairwise (· ≤ ·)) (h : ∀ x, a.count x = b.count x) : a = b := PySem.W.os_sorted_one (List.perm_iff_count.mpr h) h1 h2
theorem wi_perm {a b c d : List Int} (p : a.Perm b) (q : c.Perm d) : Wi a c ↔ Wi b d := by
  unfold Wi
  constructor
  · intro h x
    rw [← p.count_eq, ← q.count_eq]
    exact h x
  · intro h x
    rw [p.count_eq, q.count_eq]
    exact h x
section
variable {P : Program} {w : World} {K : PySem.W.Frag} {mg : Str → Option Value} {base : Heap} { cBadPool cBadLot : Addr}
def PoolOk (H : Hp) (x : V) (a : Addr) (ns : List Int) : Prop := x = .ref a ∧ Row H a (ns.map V.int) ∧ ns.length ≤ 12 ∧ ∀ n, n ∈ ns → 1 ≤ n ∧ n ≤ 1000000000
/-- the errors of a pool that is none -/
def PoolBad (cB : Addr) (x : V) (H : Hp) (E : XK) : Prop :=
  (¬ FewRow H x → ∀ H' d, Same H H' → H' d = none → E (.ref cB) (some d) (upd H' d (bad2 0 "many"))) ∧
  (∀ a xs (i : Nat) y, x = .ref a → Row H a xs → xs.length ≤ 12 → (∀ j z, j < i → xs[j]? = some z → whole z 1 1000000000 = true) → xs[i]? = some y → whole y 1 1000000000 = false → ∀ H' d, Same H H' → H' d = none → E (.ref cB) (some d) (upd H' d (bad2 i "coin")))
theorem plain_row {H H' : Hp} {a : Addr} {xs : List V} (hp : Plain H (.ref a)) (s : Same H H') (r : Row H' a xs) : Row H a xs := by
  rcases hp with ⟨ys, h⟩ | ⟨ys, h⟩ | ⟨ys, h⟩
  · rw [← Row.one (H := H') (.inl (s _ _ h)) r]
    exact .inl h
  · rw [← Row.one (H := H') (.inr (s _ _ h)) r]
    exact .inr h
  · rcases r with r | r <;> (rw [s _ _ h] at r; cases r)
theorem arg_same {H H' : Hp} {x : V} (h : Arg H x) (s : Same H H') : Arg H' x := ⟨h.1.same s, fun a xs e r y hy => by
  subst e
  exact (h.2 a xs rfl (plain_row h.1 s r) y hy).same s⟩
theorem few_same {H H' : Hp} {x : V} (h : FewRow H x) (s : Same H H') : FewRow H' x := by
  obtain ⟨a, xs, e, r, l⟩ := h
  exact ⟨a, xs, e, r.same s, l⟩
theorem bad_back {cB : Addr} {H H1 : Hp} {x : V} {E : XK} (h : Arg H x) (s : Same H H1) (b : PoolBad cB x H E) : PoolBad cB x H1 E := by
  refine ⟨fun n H' d s' hd => b.1 (fun f => n (few_same f s)) H' d (s.trans s') hd, fun a xs i y e r l f g z H' d s' hd => ?_⟩
  subst e
  exact b.2 a xs i y rfl (plain_row h.1 s r) l f g z H' d (s.trans s') hd
theorem ok_back {H H1 : Hp} {x : V} {a : Addr} {ns : List Int} (h : Arg H x) (s : Same H H1) (o : PoolOk H1 x a ns) : PoolOk H x a ns := by
  obtain ⟨e, r, l, b⟩ := o
  subst e
  exact ⟨rfl, plain_row h.1 s r, l, b⟩
theorem bad_ok2 {cB : Addr} {x : V} {H : Hp} {Q : VK} {E : XK} (h : Arg H x) (b : PoolBad cB x H E)
    (k : ∀ (a : Addr) (ns : List Int), PoolOk H x a ns → ∀ (H' : Hp) (b : Addr) (ms : List Int), Same H H' → TupN H' b (ms.map V.int) → ms.Perm ns → ms.Pairwise (· ≤ ·) → Q (.ref b) H') : sp_check_pool K cB [x] H Q E :=
  ⟨x, rfl, h, b.1, b.2, fun a ns e r l nb => k a ns ⟨e, r, l, nb⟩⟩
theorem sqT_same {H H' : Hp} {a : Addr} {xs : List V} (h : SqT K H a xs) (s : Same H H') : SqT K H' a xs := by
  rcases h with (h | ⟨o, h⟩) | h
  · exact .inl (.inl (s _ _ h))
  · exact .inl (.inr ⟨o, s _ _ h⟩)
  · exact .inr h
theorem cat_tup {H : Hp} {a b : Addr} {ns ms : List Int} {Q : VK} (ha : SqT K H a (ns.map V.int)) (hb : SqT K H b (ms.map V.int)) (hz : ns.length + ms.length ≤ 300)
    (k : ∀ (H' : Hp) (c : Addr), Same H H' → SqT K H' c ((ns ++ ms).map V.int) → Q (.ref c) H') : rCatA K (.ref a) (.ref b) H Q := by
  refine ⟨a, b, _, _, rfl, rfl, ha, hb, ?_, fun e => ?_, fun _ e => ?_, fun _ _ p hp => ?_⟩
  · rw [List.length_map, List.length_map]
    exact Nat.le_of_lt (Nat.lt_of_le_of_lt hz (by decide))
  · have e1 : ns = [] := List.map_eq_nil_iff.mp e
    exact k H b (Same.refl H) (by rw [e1]; exact hb)
  · have e1 : ms = [] := List.map_eq_nil_iff.mp e
    exact k H a (Same.refl H) (by rw [e1, List.append_nil]; exact ha)
  · exact k _ p (Same.new hp) (SqT.of (by rw [upd_same, List.map_append]))
def sp_is_within (_ : PySem.W.Frag) : Sp := fun vs H Q _ => ∃ (a b : Addr) (ns ms : List Int), vs = [.ref a, .ref b] ∧ TupN H a (ns.map V.int) ∧ TupN H b (ms.map V.int) ∧ ms.length ≤ 12 ∧ ∀ H', Same H H' → Q (.bl (decide (Wi ns ms))) H'
theorem len_is_within {vs H Q E} (h : sp_is_within K vs H Q E) : vs.length = 2 := by
  obtain ⟨_, _, _, _, rfl, _⟩ := h; rfl
theorem ok_is_within {f : Addr} {fd : FuncData} (F : Fun K "is_within" "is_within" s_is_within f fd) (T : Txt K mg cBadPool cBadLot) : FnOk P w K mg base CX0 1 f fd ps_is_within (sp_is_within K) := by
  refine F.ok (k := 0) sc_is_within (fun vs H Q E h => len_is_within h) (fun cdv A outer s H vs Q E hr h => ?_)
  refine ⟨_, (pss_one (ps_ret (pe_callB (cr_all rfl) (by rfl) T.n_all (by decide +kernel) (pa_cons (pe_lc (own := [("worth", 2)]) (g := gName 2) (tt := tYes) rfl sc_is_within.nd (pi_tup (pv 1)) (blkOk_by (N := nm_is_within) (sc := defScope s_is_within) (by decide +kernel)) (fun _ _ _ _ _ => (pg_name (i := 2) sc_is_within.nd rfl (Or.inl rfl))) (fun _ _ _ _ _ => pts_nil) (fun _ _ _ _ _ => (pe_cmpR op_le (pe_tm PySem.F.plainAttrs_tuple PySem.F.slot_tuple_count PySem.F.type_tuple_count (mt_tcountK (K := K) rfl) (pv 1) (pa_cons (pv 2) pa_nil)) (pe_tm PySem.F.plainAttrs_tuple PySem.F.slot_tuple_count PySem.F.type_tuple_count (mt_tcountK (K := K) rfl) (pv 0) (pa_cons (pv 2) pa_nil)) (nomark _)))) pa_nil)))), ?_⟩
  obtain ⟨a, b, ns, ms, rfl, ha, hb, hl, k⟩ := h
  simp only [tSeq, tAsg, tDrop, tRet, tRetN, tIfS, tNext, tTest, tB, tNot, tAnd, tOr, tChain, tIf, tAndV, tOrV, tNotV, tOp, tUn, tCB, tCons, tNil, tVar, tC, tCall, tCallS, gName, rI, rI0, rU, rEq, rNe, tTup, tLst, gSub, rSetL, rIxL, rIxT, L2.start, List.map_cons, List.map_nil, List.length_cons, List.length_nil, Nat.reduceAdd, Nat.reduceSub, List.replicate_succ, List.replicate_zero, List.getElem?_cons_zero, List.getElem?_cons_succ, List.set_cons_zero, List.set_cons_succ, Option.some.injEq, exists_eq_left', exists_eq_left, exists_and_left, V.int.injEq, V.bl.injEq, V.ref.injEq, V.str.injEq, List.cons.injEq, and_true, true_and, List.nil_append, List.cons_append, List.append_nil, reduceCtorEq, false_and, exists_false, or_false, false_or, and_false, Int.reduceNeg, decide_eq_true_eq, Bool.not_eq_true', decide_eq_false_iff_not, and_assoc, tYes, ↓reduceIte, wipe, Bool.false_eq_true, Bool.true_eq_false, cxOf, false_implies, true_implies, implies_true, forall_const]
  refine ⟨_, rfl, b, rfl, ⟨_, hb.sq⟩, fun D hD => lc_tup (K := K) (a := b) (xs := ms.map V.int) (fun i h' => Same H h' ∧ h' D = some (.lst ((((ms.take i).map fun x => decide (ms.count x ≤ ns.count x))).map V.bl))) ⟨Same.new hD, upd_same⟩ (fun i h' _ ⟨s, _⟩ => (hb.same s).sq) ?_ ?_⟩
  · rintro i z h' hi ⟨s3, eD⟩
    obtain ⟨g, hg, rfl⟩ := nat_map hi
    have il := (List.getElem?_eq_some_iff.mp hg).1
    simp only [tSeq, tAsg, tDrop, tRet, tRetN, tIfS, tNext, tTest, tB, tNot, tAnd, tOr, tChain, tIf, tAndV, tOrV, tNotV, tOp, tUn, tCB, tCons, tNil, tVar, tC, tCall, tCallS, gName, rI, rI0, rU, rEq, rNe, tTup, tLst, gSub, rSetL, rIxL, rIxT, L2.start, List.map_cons, List.map_nil, List.length_cons, List.length_nil, Nat.reduceAdd, Nat.reduceSub, List.replicate_succ, List.replicate_zero, List.getElem?_cons_zero, List.getElem?_cons_succ, List.set_cons_zero, List.set_cons_succ, Option.some.injEq, exists_eq_left', exists_eq_left, exists_and_left, V.int.injEq, V.bl.injEq, V.ref.injEq, V.str.injEq, List.cons.injEq, and_true, true_and, List.nil_append, List.cons_append, List.append_nil, reduceCtorEq, false_and, exists_false, or_false, false_or, and_false, Int.reduceNeg, decide_eq_true_eq, Bool.not_eq_true', decide_eq_false_iff_not, and_assoc, tYes, ↓reduceIte, wipe, Bool.false_eq_true, Bool.true_eq_false, cxOf, false_implies, true_implies, implies_true, forall_const, tTM, rCntT]
    refine ⟨⟨_, hb.same s3⟩, ms, (hb.same s3).sq, ⟨_, ha.same s3⟩, ns, (ha.same s3).sq, _, eD, by rw [List.length_map, List.length_map, List.length_take]; exact small1000 (by omega), fun b o e => ?_, ?_⟩
    · rw [upd_ne (ne_of_none e hD)]
      exact s3 b o e
    · rw [upd_same, List.take_add_one, hg, List.map_append, List.map_append]
      simp
  · rintro h' ⟨s3, eD⟩
    rw [List.length_map, List.take_length] at eD
    refine ⟨D, _, rfl, SqL.of eD, ?_⟩
    have e : (ms.map fun x => decide (ms.count x ≤ ns.count x)).all id = decide (Wi ns ms) := by
      rw [Bool.eq_iff_iff]
      simp only [List.all_map, List.all_eq_true, Function.comp_apply, id_eq, decide_eq_true_eq]
      constructor
      · intro h x
        by_cases hx : x ∈ ms
        · exact h x hx
        · rw [List.count_eq_zero_of_not_mem hx]
          exact Nat.zero_le _
      · exact fun h x _ => h x
    rw [e]
    exact k h' s3
def sp_rest_of (K : PySem.W.Frag) : Sp := fun vs H Q _ => ∃ (a b : Addr) (ns ms : List Int), vs = [.ref a, .ref b] ∧ SqT K H a (ns.map V.int) ∧ SqT K H b (ms.map V.int) ∧ ns.length ≤ 12 ∧ Wi ns ms ∧
  ∀ H' c, Same H H' → H' c = some (.tup ((rst ns ms).map V.int)) → Q (.ref c) H'
theorem len_rest_of {vs H Q E} (h : sp_rest_of K vs H Q E) : vs.length = 2 := by
  obtain ⟨_, _, _, _, rfl, _⟩ := h; rfl
theorem ok_rest_of {f : Addr} {fd : FuncData} (F : Fun K "rest_of" "rest_of" s_rest_of f fd) (T : Txt K mg cBadPool cBadLot) : FnOk P w K mg base CX0 1 f fd ps_rest_of (sp_rest_of K) := by
  refine F.ok (k := 0) sc_rest_of (fun vs H Q E h => len_rest_of h) (fun cdv A outer s H vs Q E hr h => ?_)
  refine ⟨_, (pss_cons (ps_set (i := 2) sc_rest_of.nd rfl (Or.inl rfl) (pe_callTy call_list_of (by rfl) T.n_list (by decide +kernel) (pa_cons (pv 0) pa_nil)))
      (pss_cons (ps_for PassesOwn.never rfl (pi_tup (pv 1)) (pg_name (i := 3) sc_rest_of.nd rfl (Or.inl rfl))
      (pss_one (ps_expr (pe_bm PySem.F.plainAttrs_list PySem.F.slot_list_remove PySem.F.type_list_remove mt_remove (pv 2) (pa_cons (pv 3) pa_nil)))))
      (pss_one (ps_ret (pe_callTy call_tuple_of (by rfl) T.n_tuple (by decide +kernel) (pa_cons (pv 2) pa_nil)))))), ?_⟩
  obtain ⟨a, b, ns, ms, rfl, ha, hb, hl, wi, k⟩ := h
  simp only [tSeq, tAsg, tDrop, tRet, tRetN, tIfS, tNext, tTest, tB, tNot, tAnd, tOr, tChain, tIf, tAndV, tOrV, tNotV, tOp, tUn, tCB, tCons, tNil, tVar, tC, tCall, tCallS, gName, rI, rI0, rU, rEq, rNe, tTup, tLst, gSub, rSetL, rIxL, rIxT, L2.start, List.map_cons, List.map_nil, List.length_cons, List.length_nil, Nat.reduceAdd, Nat.reduceSub, List.replicate_succ, List.replicate_zero, List.getElem?_cons_zero, List.getElem?_cons_succ, List.set_cons_zero, List.set_cons_succ, Option.some.injEq, exists_eq_left', exists_eq_left, exists_and_left, V.int.injEq, V.bl.injEq, V.ref.injEq, V.str.injEq, List.cons.injEq, and_true, true_and, List.nil_append, List.cons_append, List.append_nil, reduceCtorEq, false_and, exists_false, or_false, false_or, and_false, Int.reduceNeg, decide_eq_true_eq, Bool.not_eq_true', decide_eq_false_iff_not, and_assoc, tYes, ↓reduceIte, wipe, Bool.false_eq_true, Bool.true_eq_false, cxOf, false_implies, true_implies, implies_true, forall_const]
  refine ⟨_, .inr ha, fun l hl0 => ⟨_, rfl, b, rfl, ⟨_, sqT_same hb (Same.new hl0)⟩, for_tup (K := K) (a := b) (xs := ms.map V.int) (fun i z h' => ∃ (v : Option V) (cs : List Int), z = [some (.ref a), some (.ref b), some (.ref l), v] ∧ (∀ c o, H c = some o → h' c = some o) ∧ h' l = some (.lst (cs.map V.int)) ∧ Wi cs (ms.drop i) ∧ rst cs (ms.drop i) = rst ns ms ∧ cs.length ≤ 12)
    ⟨none, ns, rfl, Same.new hl0, upd_same, wi, rfl, hl⟩ (fun i z h' _ ⟨_, _, _, s, _⟩ => sqT_same hb s) ?_ ?_⟩⟩
  · rintro i y z h' hi ⟨v, cs, rfl, s, el, wc, rc, lc⟩
    obtain ⟨g, hg, rfl⟩ := nat_map hi
    have il := (List.getElem?_eq_some_iff.mp hg).1
    have ed : ms.drop i = g :: ms.drop (i + 1) := by
      rw [List.drop_eq_getElem_cons il, (List.getElem?_eq_some_iff.mp hg).2]
    rw [ed] at wc rc
    obtain ⟨w1, w2⟩ := wi_cons.mp wc
    obtain ⟨j, j1, j2, j3⟩ := first_at w1
    simp only [tSeq, tAsg, tDrop, tRet, tRetN, tIfS, tNext, tTest, tB, tNot, tAnd, tOr, tChain, tIf, tAndV, tOrV, tNotV, tOp, tUn, tCB, tCons, tNil, tVar, tC, tCall, tCallS, gName, rI, rI0, rU, rEq, rNe, tTup, tLst, gSub, rSetL, rIxL, rIxT, L2.start, List.map_cons, List.map_nil, List.length_cons, List.length_nil, Nat.reduceAdd, Nat.reduceSub, List.replicate_succ, List.replicate_zero, List.getElem?_cons_zero, List.getElem?_cons_succ, List.set_cons_zero, List.set_cons_succ, Option.some.injEq, exists_eq_left', exists_eq_left, exists_and_left, V.int.injEq, V.bl.injEq, V.ref.injEq, V.str.injEq, List.cons.injEq, and_true, true_and, List.nil_append, List.cons_append, List.append_nil, reduceCtorEq, false_and, exists_false, or_false, false_or, and_false, Int.reduceNeg, decide_eq_true_eq, Bool.not_eq_true', decide_eq_false_iff_not, and_assoc, tYes, ↓reduceIte, wipe, Bool.false_eq_true, Bool.true_eq_false, cxOf, false_implies, true_implies, implies_true, forall_const, tBM, rRemI]
    exact ⟨.inl ⟨rfl, _, SqL.of el⟩, cs, el, j, j1, j2, fun c o e => by rw [upd_ne (ne_of_none e hl0)]; exact s c o e, cs.erase g, by rw [upd_same, j3], w2, rc, Nat.le_trans (List.length_erase_le ..) lc⟩
  · rintro z h' ⟨v, cs, rfl, s, el, wc, rc, lc⟩
    simp only [tSeq, tAsg, tDrop, tRet, tRetN, tIfS, tNext, tTest, tB, tNot, tAnd, tOr, tChain, tIf, tAndV, tOrV, tNotV, tOp, tUn, tCB, tCons, tNil, tVar, tC, tCall, tCallS, gName, rI, rI0, rU, rEq, rNe, tTup, tLst, gSub, rSetL, rIxL, rIxT, L2.start, List.map_cons, List.map_nil, List.length_cons, List.length_nil, Nat.reduceAdd, Nat.reduceSub, List.replicate_succ, List.replicate_zero, List.getElem?_cons_zero, List.getElem?_cons_succ, List.set_cons_zero, List.set_cons_succ, Option.some.injEq, exists_eq_left', exists_eq_left, exists_and_left, V.int.injEq, V.bl.injEq, V.ref.injEq, V.str.injEq, List.cons.injEq, and_true, true_and, List.nil_append, List.cons_append, List.append_nil, reduceCtorEq, false_and, exists_false, or_false, false_or, and_false, Int.reduceNeg, decide_eq_true_eq, Bool.not_eq_true', decide_eq_false_iff_not, and_assoc, tYes, ↓reduceIte, wipe, Bool.false_eq_true, Bool.true_eq_false, cxOf, false_implies, true_implies, implies_true, forall_const]
    rw [List.length_map, List.drop_length] at rc
    refine ⟨_, .inl ⟨SqL.of el, fun t ht => ?_⟩⟩
    exact k _ t (fun c o e => (Same.new ht) _ _ (s c o e)) (by rw [upd_same, ← rc]; rfl)
def sp_has_lot (_ : PySem.W.Frag) (cB : Addr) : Sp := fun vs H Q E => ∃ x y : V, vs = [x, y] ∧ Arg H x ∧ Arg H y ∧ PoolBad cB x H E ∧ (∀ a ns, PoolOk H x a ns → PoolBad cB y H E) ∧
  ∀ a ns b ms, PoolOk H x a ns → PoolOk H y b ms → ∀ H', Same H H' → Q (.bl (decide (Wi ns ms))) H'
theorem len_has_lot {vs H Q E} (h : sp_has_lot K cBadPool vs H Q E) : vs.length = 2 := by
  obtain ⟨_, _, rfl, _⟩ := h; rfl
theorem ok_has_lot {f : Addr} {fd : FuncData} (F : Fun K "has_lot" "has_lot" s_has_lot f fd) (T : Txt K mg cBadPool cBadLot) : FnOk P w K mg base (L2.CX P w) 4 f fd ps_has_lot (sp_has_lot K cBadPool) := by
  obtain ⟨f_check_pool, fd_check_pool, F_check_pool, m_check_pool, b_check_pool⟩ := T.d_check_pool
  have G_check_pool : FnOk P w K mg base (L2.CX P w) 3 f_check_pool fd_check_pool ps_check_pool (sp_check_pool K cBadPool) := ok_check_pool F_check_pool T
  obtain ⟨f_is_within, fd_is_within, F_is_within, m_is_within, b_is_within⟩ := T.d_is_within
  have G_is_within : FnOk P w K mg base CX0 1 f_is_within fd_is_within ps_is_within (sp_is_within K) := ok_is_within F_is_within T
  refine F.okX (k := 3) sc_has_lot (fun vs H Q E h => len_has_lot h) (fun cdv A outer s H vs Q E hr h => ?_)
  refine ⟨_, (pss_cons (ps_set (i := 2) sc_has_lot.nd rfl (Or.inl rfl) (pe_call G_check_pool (hr.mono (by decide)) (by rfl) m_check_pool F_check_pool.kp b_check_pool .nil (passes_call (takes_of rfl rfl rfl rfl) fun _ _ _ _ z => z) (pa_cons (pv 0) pa_nil)))
      (pss_one (ps_ret (pe_call G_is_within (hr.mono (by decide)) (by rfl) m_is_within F_is_within.kp b_is_within .nil pass0 (pa_cons (pv 2) (pa_cons (pe_call G_check_pool (hr.mono (by decide)) (by rfl) m_check_pool F_check_pool.kp b_check_pool .nil (passes_call (takes_of rfl rfl rfl rfl) fun _ _ _ _ z => z) (pa_cons (pv 1) pa_nil)) pa_nil)))))), ?_⟩
  obtain ⟨x, y, rfl, hx, hy, q1, q2, q3⟩ := h
  simp only [tSeq, tAsg, tDrop, tRet, tRetN, tIfS, tNext, tTest, tB, tNot, tAnd, tOr, tChain, tIf, tAndV, tOrV, tNotV, tOp, tUn, tCB, tCons, tNil, tVar, tC, tCall, tCallS, gName, rI, rI0, rU, rEq, rNe, tTup, tLst, gSub, rSetL, rIxL, rIxT, L2.start, List.map_cons, List.map_nil, List.length_cons, List.length_nil, Nat.reduceAdd, Nat.reduceSub, List.replicate_succ, List.replicate_zero, List.getElem?_cons_zero, List.getElem?_cons_succ, List.set_cons_zero, List.set_cons_succ, Option.some.injEq, exists_eq_left', exists_eq_left, exists_and_left, V.int.injEq, V.bl.injEq, V.ref.injEq, V.str.injEq, List.cons.injEq, and_true, true_and, List.nil_append, List.cons_append, List.append_nil, reduceCtorEq, false_and, exists_false, or_false, false_or, and_false, Int.reduceNeg, decide_eq_true_eq, Bool.not_eq_true', decide_eq_false_iff_not, and_assoc, tYes, ↓reduceIte, wipe, Bool.false_eq_true, Bool.true_eq_false, cxOf, false_implies, true_implies, implies_true, forall_const]
  refine bad_ok2 hx q1 fun a ns o H1 c ks s1 e1 p1 p2 => ?_
  refine bad_ok2 (arg_same hy s1) (bad_back hy s1 (q2 a ns o)) fun b ms o2 H2 d ls s2 e2 r1 r2 => ?_
  have o2' := ok_back hy s1 o2
  refine ⟨c, d, ks, ls, rfl, e1.same s2, e2, by rw [r1.length_eq]; exact o2.2.2.1, fun H3 s3 => ?_⟩
  have e : decide (Wi ks ls) = decide (Wi ns ms) := by
    rw [decide_eq_decide]
    exact wi_perm p1 r1
  rw [e]
  exact q3 a ns b ms o o2' H3 (s1.trans (s2.trans s3))
def sp_less_lot (_ : PySem.W.Frag) (cL cB : Addr) : Sp := fun vs H Q E => ∃ x y : V, vs = [x, y] ∧ Arg H x ∧ Arg H y ∧ PoolBad cB x H E ∧ (∀ a ns, PoolOk H x a ns → PoolBad cB y H E) ∧
  (∀ a ns b ms, PoolOk H x a ns → PoolOk H y b ms → ¬ Wi ns ms → ∀ H', Same H H' → E (.ref cL) none H') ∧
  ∀ a ns b ms, PoolOk H x a ns → PoolOk H y b ms → Wi ns ms → ∀ (H' : Hp) (c : Addr) (zs : List Int), Same H H' → H' c = some (.tup (zs.map V.int)) → (∀ x, zs.count x = ns.count x - ms.count x) → zs.Pairwise (· ≤ ·) → zs.length ≤ 12 → (∀ n, n ∈ zs → 1 ≤ n ∧ n ≤ 1000000000) → Q (.ref c) H'
theorem len_less_lot {vs H Q E} (h : sp_less_lot K cBadLot cBadPool vs H Q E) : vs.length = 2 := by
  obtain ⟨_, _, rfl, _⟩ := h; rfl
theorem ok_less_lot {f : Addr} {fd : FuncData} (F : Fun K "less_lot" "less_lot" s_less_lot f fd) (T : Txt K mg cBadPool cBadLot) : FnOk P w K mg base (L2.CX P w) 4 f fd ps_less_lot (sp_less_lot K cBadLot cBadPool) := by
  obtain ⟨f_check_pool, fd_check_pool, F_check_pool, m_check_pool, b_check_pool⟩ := T.d_check_pool
  have G_check_pool : FnOk P w K mg base (L2.CX P w) 3 f_check_pool fd_check_pool ps_check_pool (sp_check_pool K cBadPool) := ok_check_pool F_check_pool T
  obtain ⟨f_rest_of, fd_rest_of, F_rest_of, m_rest_of, b_rest_of⟩ := T.d_rest_of
  have G_rest_of : FnOk P w K mg base CX0 1 f_rest_of fd_rest_of ps_rest_of (sp_rest_of K) := ok_rest_of F_rest_of T
  obtain ⟨f_is_within, fd_is_within, F_is_within, m_is_within, b_is_within⟩ := T.d_is_within
  have G_is_within : FnOk P w K mg base CX0 1 f_is_within fd_is_within ps_is_within (sp_is_within K) := ok_is_within F_is_within T
  refine F.okX (k := 3) sc_less_lot (fun vs H Q E h => len_less_lot h) (fun cdv A outer s H vs Q E hr h => ?_)
  refine ⟨_, (pss_cons (ps_set (i := 2) sc_less_lot.nd rfl (Or.inl rfl) (pe_call G_check_pool (hr.mono (by decide)) (by rfl) m_check_pool F_check_pool.kp b_check_pool .nil (passes_call (takes_of rfl rfl rfl rfl) fun _ _ _ _ z => z) (pa_cons (pv 0) pa_nil)))
      (pss_cons (ps_set (i := 3) sc_less_lot.nd rfl (Or.inl rfl) (pe_call G_check_pool (hr.mono (by decide)) (by rfl) m_check_pool F_check_pool.kp b_check_pool .nil (passes_call (takes_of rfl rfl rfl rfl) fun _ _ _ _ z => z) (pa_cons (pv 1) pa_nil)))
      (pss_cons (ps_if (pt_not (pt_val (pe_call G_is_within (hr.mono (by decide)) (by rfl) m_is_within F_is_within.kp b_is_within .nil pass0 (pa_cons (pv 2) (pa_cons (pv 3) pa_nil))))) (pss_one (ps_raise rfl (takes_of rfl rfl rfl rfl) (T.y_BadLot.made (by rfl)))) pss_nil)
      (pss_one (ps_ret (pe_call G_rest_of (hr.mono (by decide)) (by rfl) m_rest_of F_rest_of.kp b_rest_of .nil pass0 (pa_cons (pv 2) (pa_cons (pv 3) pa_nil)))))))), ?_⟩
  obtain ⟨x, y, rfl, hx, hy, q1, q2, q3, q4⟩ := h
  simp only [tSeq, tAsg, tDrop, tRet, tRetN, tIfS, tNext, tTest, tB, tNot, tAnd, tOr, tChain, tIf, tAndV, tOrV, tNotV, tOp, tUn, tCB, tCons, tNil, tVar, tC, tCall, tCallS, gName, rI, rI0, rU, rEq, rNe, tTup, tLst, gSub, rSetL, rIxL, rIxT, L2.start, List.map_cons, List.map_nil, List.length_cons, List.length_nil, Nat.reduceAdd, Nat.reduceSub, List.replicate_succ, List.replicate_zero, List.getElem?_cons_zero, List.getElem?_cons_succ, List.set_cons_zero, List.set_cons_succ, Option.some.injEq, exists_eq_left', exists_eq_left, exists_and_left, V.int.injEq, V.bl.injEq, V.ref.injEq, V.str.injEq, List.cons.injEq, and_true, true_and, List.nil_append, List.cons_append, List.append_nil, reduceCtorEq, false_and, exists_false, or_false, false_or, and_false, Int.reduceNeg, decide_eq_true_eq, Bool.not_eq_true', decide_eq_false_iff_not, and_assoc, tYes, ↓reduceIte, wipe, Bool.false_eq_true, Bool.true_eq_false, cxOf, false_implies, true_implies, implies_true, forall_const]
  refine bad_ok2 hx q1 fun a ns o H1 c ks s1 e1 p1 p2 => ?_
  refine bad_ok2 (arg_same hy s1) (bad_back hy s1 (q2 a ns o)) fun b ms o2 H2 d ls s2 e2 r1 r2 => ?_
  have o2' := ok_back hy s1 o2
  refine ⟨c, d, ks, ls, rfl, e1.same s2, e2, by rw [r1.length_eq]; exact o2.2.2.1, fun H3 s3 => ⟨_, rfl, ?_⟩⟩
  have s13 := s1.trans (s2.trans s3)
  by_cases wi : Wi ks ls
  · rw [decide_eq_true wi, if_neg (fun z => by cases z)]
    refine ⟨c, d, ks, ls, rfl, (e1.same (s2.trans s3)).sq, (e2.same s3).sq, by rw [p1.length_eq]; exact o.2.2.1, wi, fun H4 t s4 et => ?_⟩
    refine q4 a ns b ms o o2' ((wi_perm p1 r1).mp wi) H4 t _ (s13.trans s4) et (fun x => ?_) (rst_sorted p2) (Nat.le_trans rst_len (by rw [p1.length_eq]; exact o.2.2.1)) fun n hn => o.2.2.2 n (p1.mem_iff.mp (rst_mem hn))
    rw [rst_count, p1.count_eq, r1.count_eq]
  · rw [decide_eq_false wi, if_pos rfl]
    exact q3 a ns b ms o o2' (fun z => wi ((wi_perm p1 r1).mpr z)) H3 s13
def sp_joined_pools (_ : PySem.W.Frag) (cB : Addr) : Sp := fun vs H Q E => ∃ x y : V, vs = [x, y] ∧ Arg H x ∧ Arg H y ∧ PoolBad cB x H E ∧ (∀ a ns, PoolOk H x a ns → PoolBad cB y H E) ∧
  (∀ a ns b ms, PoolOk H x a ns → PoolOk H y b ms → 12 < ns.length + ms.length → ∀ H' d, Same H H' → H' d = none → E (.ref cB) (some d) (upd H' d (bad2 0 "many"))) ∧
  ∀ a ns b ms, PoolOk H x a ns → PoolOk H y b ms → ns.length + ms.length ≤ 12 → ∀ (H' : Hp) (c : Addr) (zs : List Int), Same H H' → H' c = some (.tup (zs.map V.int)) → zs.Perm (ns ++ ms) → zs.Pairwise (· ≤ ·) → Q (.ref c) H'
theorem len_joined_pools {vs H Q E} (h : sp_joined_pools K cBadPool vs H Q E) : vs.length = 2 := by
  obtain ⟨_, _, rfl, _⟩ := h; rfl
theorem ok_joined_pools {f : Addr} {fd : FuncData} (F : Fun K "joined_pools" "joined_pools" s_joined_pools f fd) (T : Txt K mg cBadPool cBadLot) : FnOk P w K mg base (L2.CX P w) 4 f fd ps_joined_pools (sp_joined_pools K cBadPool) := by
  obtain ⟨f_check_pool, fd_check_pool, F_check_pool, m_check_pool, b_check_pool⟩ := T.d_check_pool
  have G_check_pool : FnOk P w K mg base (L2.CX P w) 3 f_check_pool fd_check_pool ps_check_pool (sp_check_pool K cBadPool) := ok_check_pool F_check_pool T
  obtain ⟨f_i_BadPool, fd_i_BadPool, F_i_BadPool, b_i_BadPool, iC_BadPool, tI_BadPool⟩ := T.y_BadPool.ini
  have G_i_BadPool : FnOk P w K mg base CX0 1 f_i_BadPool fd_i_BadPool ps_i_BadPool (spI2 K cBadPool "place" "what") := ok_i_BadPool F_i_BadPool T
  obtain ⟨u_MOST_COINS, c_MOST_COINS, r_MOST_COINS⟩ := T.c_MOST_COINS
  refine F.okX (k := 3) sc_joined_pools (fun vs H Q E h => len_joined_pools h) (fun cdv A outer s H vs Q E hr h => ?_)
  refine ⟨_, (pss_cons (ps_set (i := 2) sc_joined_pools.nd rfl (Or.inl rfl) (pe_op op_catA (pe_call G_check_pool (hr.mono (by decide)) (by rfl) m_check_pool F_check_pool.kp b_check_pool .nil (passes_call (takes_of rfl rfl rfl rfl) fun _ _ _ _ z => z) (pa_cons (pv 0) pa_nil)) (pe_call G_check_pool (hr.mono (by decide)) (by rfl) m_check_pool F_check_pool.kp b_check_pool .nil (passes_call (takes_of rfl rfl rfl rfl) fun _ _ _ _ z => z) (pa_cons (pv 1) pa_nil))))
      (pss_cons (ps_if (pt_cmpR op_gt (pe_callB call_len_seq (by rfl) T.n_len (by decide +kernel) (pa_cons (pv 2) pa_nil)) (pe_glob rfl c_MOST_COINS r_MOST_COINS) (nomark _)) (pss_one (ps_raise rfl (takes_of rfl rfl rfl rfl) (pmk_oex T.y_BadPool.ox iC_BadPool tI_BadPool G_i_BadPool (hr.mono (by decide)) b_i_BadPool .nil pass0 (by rfl) T.y_BadPool.gC (pa_cons pe_int (pa_cons pe_str pa_nil))))) pss_nil)
      (pss_one (ps_ret (pe_callTy call_tuple_of (by rfl) T.n_tuple (by decide +kernel) (pa_cons (pe_callB cr_sortedE (by rfl) T.n_sorted (by decide +kernel) (pa_cons (pv 2) pa_nil)) pa_nil)))))), ?_⟩
  obtain ⟨x, y, rfl, hx, hy, q1, q2, q3, q4⟩ := h
  simp only [tSeq, tAsg, tDrop, tRet, tRetN, tIfS, tNext, tTest, tB, tNot, tAnd, tOr, tChain, tIf, tAndV, tOrV, tNotV, tOp, tUn, tCB, tCons, tNil, tVar, tC, tCall, tCallS, gName, rI, rI0, rU, rEq, rNe, tTup, tLst, gSub, rSetL, rIxL, rIxT, L2.start, List.map_cons, List.map_nil, List.length_cons, List.length_nil, Nat.reduceAdd, Nat.reduceSub, List.replicate_succ, List.replicate_zero, List.getElem?_cons_zero, List.getElem?_cons_succ, List.set_cons_zero, List.set_cons_succ, Option.some.injEq, exists_eq_left', exists_eq_left, exists_and_left, V.int.injEq, V.bl.injEq, V.ref.injEq, V.str.injEq, List.cons.injEq, and_true, true_and, List.nil_append, List.cons_append, List.append_nil, reduceCtorEq, false_and, exists_false, or_false, false_or, and_false, Int.reduceNeg, decide_eq_true_eq, Bool.not_eq_true', decide_eq_false_iff_not, and_assoc, tYes, ↓reduceIte, wipe, Bool.false_eq_true, Bool.true_eq_false, cxOf, false_implies, true_implies, implies_true, forall_const]
  refine bad_ok2 hx q1 fun a ns o H1 c ks s1 e1 p1 p2 => ?_
  refine bad_ok2 (arg_same hy s1) (bad_back hy s1 (q2 a ns o)) fun b ms o2 H2 d ls s2 e2 r1 r2 => ?_
  have o2' := ok_back hy s1 o2
  have l1 := p1.length_eq
  have l2 := r1.length_eq
  refine cat_tup (e1.same s2).sq e2.sq (by have := o.2.2.1; have := o2.2.2.1; omega) fun H3 t s3 et => ?_
  have s13 := s1.trans (s2.trans s3)
  refine ⟨t, rfl, _, .inr et, ?_⟩
  rw [List.length_map, List.length_append]
  split
  · rename_i g
    have T0 := T
    exact raise2 T0.y_BadPool.ox T0.f_BadPool_place T0.f_BadPool_what fun d hd => q3 a ns b ms o o2' (by omega) H3 d s13 hd
  · rename_i g
    refine ⟨t, _, rfl, .inr et, fun zs l z1 z2 hl2 => ⟨l, rfl, _, .inl ⟨SqL.of upd_same, fun u hu => ?_⟩⟩⟩
    exact q4 a ns b ms o o2' (by omega) _ u zs (s13.trans ((Same.new hl2).trans (Same.new hu))) upd_same (z1.trans (p1.append r1)) z2
end
end My
set_option Elab.async false
set_option linter.all false
set_option maxRecDepth 100000
set_option maxHeartbeats 4000000
namespace My
open PySem PySem.Spec PyProof.Rows L2 Gen
section
variable {P : Program} {w : World} {K : PySem.W.Frag} {mg : Str → Option Value} {base : Heap} { cBadPool cBadLot : Addr}
theorem shaped_tupI (ns : List Int) : SeqAt.shaped (.tuple (ns.map PyData.int)) = true := by
  have d1 := PySem.W.depthAll_ints ns
  have d2 : PyData.depth (.tuple (ns.map PyData.int)) ≤ 64 := by simp only [PyData.depth]; omega
  show (PyData.canLay0 (.tuple (ns.map PyData.int)) && decide (PyData.depth (.tuple (ns.map PyData.int)) ≤ 64)) = true
  rw [Bool.and_eq_true]
  exact ⟨by simp only [PyData.canLay0]; exact PySem.W.canLayAll0_ints ns, decide_eq_true d2⟩
theorem eqvAll_dec : ∀ ns ms : List Int, PyData.eqvAll (ns.map PyData.int) (ms.map PyData.int) = decide (ns = ms)
  | [], [] => by simp [PyData.eqvAll]
  | [], _ :: _ => by simp [PyData.eqvAll]
  | _ :: _, [] => by simp [PyData.eqvAll]
  | n :: ns, m :: ms => by
    simp only [List.map_cons, PyData.eqvAll, PyData.eqv, eqvAll_dec ns ms]
    by_cases e : n = m <;> simp [e]
/-- two tuples of numbers -/
theorem eq_tupI {H : Hp} {a b : Addr} {ns ms : List Int} {Q : VK} (ha : H a = some (.tup (ns.map V.int))) (hb : H b = some (.tup (ms.map V.int))) (q : Q (.bl (decide (ns = ms))) H) : rEqD K (.ref a) (.ref b) H Q := by
  refine ⟨_, _, .tup (SqT.of ha) (dp_ints ns), .tup (SqT.of hb) (dp_ints ms), shaped_tupI ns, shaped_tupI ms, ?_⟩
  rw [show PyData.eqv (.tuple (ns.map PyData.int)) (.tuple (ms.map PyData.int)) = decide (ns = ms) by simp only [PyData.eqv]; exact eqvAll_dec ns ms]
  exact q
theorem ne_tupI {H : Hp} {a b : Addr} {ns ms : List Int} {Q : VK} (ha : H a = some (.tup (ns.map V.int))) (hb : H b = some (.tup (ms.map V.int))) (q : Q (.bl (!decide (ns = ms))) H) : rNeD K (.ref a) (.ref b) H Q := by
  refine ⟨_, _, .tup (SqT.of ha) (dp_ints ns), .tup (SqT.of hb) (dp_ints ms), shaped_tupI ns, shaped_tupI ms, ?_⟩
  rw [show PyData.eqv (.tuple (ns.map PyData.int)) (.tuple (ms.map PyData.int)) = decide (ns = ms) by simp only [PyData.eqv]; exact eqvAll_dec ns ms]
  exact q
theorem eq_listI {H : Hp} {a b : Addr} {ns ms : List Int} {Q : VK} (ha : SqL K H a (ns.map V.int)) (hb : SqL K H b (ms.map V.int)) (q : Q (.bl (decide (ns = ms))) H) : rEqD K (.ref a) (.ref b) H Q := by
  refine ⟨_, _, .lst ha (dp_ints ns), .lst hb (dp_ints ms), PySem.W.shaped_ints ns, PySem.W.shaped_ints ms, ?_⟩
  rw [show PyData.eqv (.list (ns.map PyData.int)) (.list (ms.map PyData.int)) = decide (ns = ms) by simp only [PyData.eqv]; exact eqvAll_dec ns ms]
  exact q
theorem ne_listI {H : Hp} {a b : Addr} {ns ms : List Int} {Q : VK} (ha : SqL K H a (ns.map V.int)) (hb : SqL K H b (ms.map V.int)) (q : Q (.bl (!decide (ns = ms))) H) : rNeD K (.ref a) (.ref b) H Q := by
  refine ⟨_, _, .lst ha (dp_ints ns), .lst hb (dp_ints ms), PySem.W.shaped_ints ns, PySem.W.shaped_ints ms, ?_⟩
  rw [show PyData.eqv (.list (ns.map PyData.int)) (.list (ms.map PyData.int)) = decide (ns = ms) by simp only [PyData.eqv]; exact eqvAll_dec ns ms]
  exact q
theorem cut_to (ns : List Int) (j : Nat) : cutV (ns.map V.int) none (some (j : Int)) = (ns.take j).map V.int := by
  unfold cutV
  rw [HT.sIx_none, HT.sIx_nat, List.length_map, List.drop_zero, Nat.sub_zero, ← List.map_take]
  congr 1
  rw [Nat.min_def]
  split
  · rfl
  · rw [List.take_length, List.take_of_length_le (by omega)]
theorem cut_from (ns : List Int) (j : Nat) : cutV (ns.map V.int) (some ((j : Int) + 1)) none = (ns.drop (j + 1)).map V.int := by
  unfold cutV
  have e : (j : Int) + 1 = ((j + 1 : Nat) : Int) := by omega
  rw [e, HT.sIx_none, HT.sIx_nat, List.length_map, ← List.map_drop, ← List.map_take]
  congr 1
  rw [Nat.min_def]
  split
  · rw [List.take_of_length_le (by rw [List.length_drop]; omega)]
  · rw [List.drop_length, List.drop_eq_nil_of_le (by omega), List.take_nil]
theorem mem_cut {ns : List Int} {j m : Nat} {x : Int} (h : x ∈ ns.take j ++ ns.drop m) : x ∈ ns := by
  rcases List.mem_append.mp h with h | h
  · exact List.mem_of_mem_take h
  · exact List.mem_of_mem_drop h
theorem handOffq {H : Hp} {h q p : Addr} (x : HandAt H h q) (hp : H p = none) : p ≠ q := by
  obtain ⟨cs, i, r, t, _, h2, _⟩ := x.ex
  exact fun z => by rw [z, h2] at hp; cases hp
theorem handPut {H : Hp} {h q p : Addr} {o : HO} (x : HandAt H h q) (n1 : p ≠ h) (n2 : p ≠ q) : HandAt (upd H p o) h q := by
  obtain ⟨cs, i, r, t, h1, h2, m⟩ := x.ex
  exact ⟨cs, i, r, t, by rw [upd_ne (Ne.symm n1)]; exact h1, by rw [upd_ne (Ne.symm n2)]; exact h2, m⟩
/-- what stood stands, but for the hand, when a new thing changes -/
theorem butAt {h D : Addr} {H H' : Hp} {o : HO} (b : But h H H') (hD : H D = none) : But h H (upd H' D o) := fun c u e n => by
  rw [upd_ne (ne_of_none e hD)]
  exact b c u e n
/-- a list of coins that a def hands over, with the hand as a hand -/
def Gives (h q : Addr) (n : Nat) (H : Hp) (Q : VK) : Prop := ∀ (H' : Hp) (b : Addr) (ms : List Int), HandAt H' h q → But h H H' → H' b = some (.lst (ms.map V.int)) → b ≠ h → ms.length ≤ n → (∀ m, m ∈ ms → 1 ≤ m ∧ m ≤ 1000000000) → Q (.ref b) H'
theorem sum_box {B : Int} (B0 : 0 ≤ B) : ∀ {ms : List Int}, (∀ m, m ∈ ms → 0 ≤ m ∧ m ≤ B) → 0 ≤ ms.sum ∧ ms.sum ≤ B * ms.length
  | [], _ => ⟨Int.le_refl 0, by simp⟩
  | m :: ms, h => by
    have a := h m List.mem_cons_self
    have b := sum_box B0 fun x hx => h x (List.mem_cons_of_mem _ hx)
    have e : B * ((ms.length + 1 : Nat) : Int) = B * ms.length + B := by
      rw [Int.natCast_add, Int.mul_add]
      simp
    rw [List.sum_cons, List.length_cons, e]
    omega
theorem small300 {n : Nat} (h : n ≤ 300) : n ≤ sizeLine := Nat.le_of_lt (Nat.lt_of_le_of_lt h (by decide))
theorem put_sum {ms : List Int} {e : Nat} {g : Int} : (ms.take e ++ [g] ++ ms.drop e).sum = ms.sum + g := by
  have es : (ms.take e).sum + (ms.drop e).sum = ms.sum := by rw [← List.sum_append, List.take_append_drop]
  rw [List.sum_append, List.sum_append]
  simp
  omega
theorem put_perm {ms : List Int} {e : Nat} {g : Int} : (ms.take e ++ [g] ++ ms.drop e).Perm (ms ++ [g]) := by
  have z : (ms.take e ++ ([g] ++ ms.drop e)).Perm (ms.take e ++ (ms.drop e ++ [g])) := (List.perm_append_comm (l₁ := [g]) (l₂ := ms.drop e)).append_left _
  rwa [← List.append_assoc, ← List.append_assoc, List.take_append_drop] at z
/-- sorted coins that a def hands over, with the hand as a hand -/
def GivesS (h q : Addr) (n : Nat) (H : Hp) (Q : VK) : Prop := ∀ (H' : Hp) (b : Addr) (ms : List Int), HandAt H' h q → But h H H' → H' b = some (.lst (ms.map V.int)) → b ≠ h → ms.length ≤ n → (∀ m, m ∈ ms → 1 ≤ m ∧ m ≤ 1000000000) → ms.Pairwise (· ≤ ·) → Q (.ref b) H'
end
end My
set_option Elab.async false
set_option linter.all false
set_option maxRecDepth 100000
set_option maxHeartbeats 4000000
namespace My
open PySem PySem.Spec PyProof.Rows L2 Gen
section
variable {P : Program} {w : World} {K : PySem.W.Frag} {mg : Str → Option Value} {base : Heap} { cBadPool cBadLot : Addr}
/-- what is free behind was free before -/
theorem but_free {h q p : Addr} {H H' : Hp} (b : But h H H') (hd : HandAt H' h q) (hp : H' p = none) : H p = none := by
  have n := hd.off hp
  cases z : H p with
  | none => rfl
  | some o =>
    have y := b _ _ z n
    rw [hp] at y
    cases y
theorem max_box {d e : Int} (d0 : 0 ≤ d) (d1 : d < 12 + 1) (e0 : 0 ≤ e) (e1 : e < 12 + 1) : 0 ≤ (if e > d then e else d) ∧ (if e > d then e else d) ≤ 12 := by
  split <;> exact ⟨by omega, by omega⟩
abbrev sp_l_big (_ : PySem.W.Frag) : Sp := spDraw
theorem len_l_big {vs H Q E} (h : sp_l_big K vs H Q E) : vs.length = 2 := by
  obtain ⟨_, _, _, rfl, _⟩ := h; rfl
theorem ok_l_big {f : Addr} {fd : FuncData} (F : Fun K "_law_big" "_law_big" s_l_big f fd) (T : Txt K mg cBadPool cBadLot) : FnOk P w K mg base CX0 3 f fd ps_l_big (sp_l_big K) := by
  obtain ⟨f_l_draw, fd_l_draw, F_l_draw, m_l_draw, b_l_draw⟩ := T.d_l_draw
  have G_l_draw : FnOk P w K mg base CX0 2 f_l_draw fd_l_draw ps_l_draw (sp_l_draw K) := ok_l_draw F_l_draw T
  refine F.ok (k := 2) sc_l_big (fun vs H Q E h => len_l_big h) (fun cdv A outer s H vs Q E hr h => ?_)
  refine ⟨_, (pss_cons (ps_set (i := 2) sc_l_big.nd rfl (Or.inl rfl) pe_int)
      (pss_cons (ps_for PassesOwn.never rfl (pi_range1 (by rfl) T.n_range (pa_cons pe_int pa_nil)) (pg_name (i := 3) sc_l_big.nd rfl (Or.inl rfl))
      (pss_one (ps_set (i := 2) sc_l_big.nd rfl (Or.inl rfl) (pe_op op_add (pe_op op_mul (pv 2) pe_int) (pe_call G_l_draw (hr.mono (by decide)) (by rfl) m_l_draw F_l_draw.kp b_l_draw .nil pass0 (pa_cons (pv 0) (pa_cons pe_int pa_nil)))))))
      (pss_one (ps_ret (pe_op op_mod (pe_callTy call_int1 (by rfl) T.n_int (by decide +kernel) (pa_cons (pv 2) pa_nil)) (pv 1)))))), ?_⟩
  obtain ⟨h, q, m, rfl, hh, m0, m1, k⟩ := h
  simp only [tSeq, tAsg, tDrop, tRet, tRetN, tIfS, tNext, tTest, tB, tNot, tAnd, tOr, tChain, tIf, tAndV, tOrV, tNotV, tOp, tUn, tCB, tCons, tNil, tVar, tC, tCall, tCallS, gName, rI, rI0, rU, rEq, rNe, tTup, tLst, gSub, rSetL, rIxL, rIxT, L2.start, List.map_cons, List.map_nil, List.length_cons, List.length_nil, Nat.reduceAdd, Nat.reduceSub, List.replicate_succ, List.replicate_zero, List.getElem?_cons_zero, List.getElem?_cons_succ, List.set_cons_zero, List.set_cons_succ, Option.some.injEq, exists_eq_left', exists_eq_left, exists_and_left, V.int.injEq, V.bl.injEq, V.ref.injEq, V.str.injEq, List.cons.injEq, and_true, true_and, List.nil_append, List.cons_append, List.append_nil, reduceCtorEq, false_and, exists_false, or_false, false_or, and_false, Int.reduceNeg, decide_eq_true_eq, Bool.not_eq_true', decide_eq_false_iff_not, and_assoc, tYes, ↓reduceIte, wipe, Bool.false_eq_true, Bool.true_eq_false, cxOf, false_implies, true_implies, implies_true, forall_const]
  refine ⟨_, rfl, by decide, by decide, for_range (lo := 0) (n := 4) (fun i z h' => ∃ (n : Int) (v : Option V), z = [some (.ref h), some (.int m), some (.int n), v] ∧ HandAt h' h q ∧ But h H h' ∧ 0 ≤ n) ⟨0, none, rfl, hh, But.refl h H, Int.le_refl 0⟩ ?_ ?_⟩
  · rintro i z h' hi ⟨n, v, rfl, hd, b, n0⟩
    simp only [tSeq, tAsg, tDrop, tRet, tRetN, tIfS, tNext, tTest, tB, tNot, tAnd, tOr, tChain, tIf, tAndV, tOrV, tNotV, tOp, tUn, tCB, tCons, tNil, tVar, tC, tCall, tCallS, gName, rI, rI0, rU, rEq, rNe, tTup, tLst, gSub, rSetL, rIxL, rIxT, L2.start, List.map_cons, List.map_nil, List.length_cons, List.length_nil, Nat.reduceAdd, Nat.reduceSub, List.replicate_succ, List.replicate_zero, List.getElem?_cons_zero, List.getElem?_cons_succ, List.set_cons_zero, List.set_cons_succ, Option.some.injEq, exists_eq_left', exists_eq_left, exists_and_left, V.int.injEq, V.bl.injEq, V.ref.injEq, V.str.injEq, List.cons.injEq, and_true, true_and, List.nil_append, List.cons_append, List.append_nil, reduceCtorEq, false_and, exists_false, or_false, false_or, and_false, Int.reduceNeg, decide_eq_true_eq, Bool.not_eq_true', decide_eq_false_iff_not, and_assoc, tYes, ↓reduceIte, wipe, Bool.false_eq_true, Bool.true_eq_false, cxOf, false_implies, true_implies, implies_true, forall_const, spDraw]
    refine ⟨cmr (by decide) (by decide), q, hd, by decide, by decide, fun d H1 d0 d1 hd1 b1 => ⟨hd1, b.trans b1, by omega⟩⟩
  · rintro z h' ⟨n, v, rfl, hd, b, n0⟩
    simp only [tSeq, tAsg, tDrop, tRet, tRetN, tIfS, tNext, tTest, tB, tNot, tAnd, tOr, tChain, tIf, tAndV, tOrV, tNotV, tOp, tUn, tCB, tCons, tNil, tVar, tC, tCall, tCallS, gName, rI, rI0, rU, rEq, rNe, tTup, tLst, gSub, rSetL, rIxL, rIxT, L2.start, List.map_cons, List.map_nil, List.length_cons, List.length_nil, Nat.reduceAdd, Nat.reduceSub, List.replicate_succ, List.replicate_zero, List.getElem?_cons_zero, List.getElem?_cons_succ, List.set_cons_zero, List.set_cons_succ, Option.some.injEq, exists_eq_left', exists_eq_left, exists_and_left, V.int.injEq, V.bl.injEq, V.ref.injEq, V.str.injEq, List.cons.injEq, and_true, true_and, List.nil_append, List.cons_append, List.append_nil, reduceCtorEq, false_and, exists_false, or_false, false_or, and_false, Int.reduceNeg, decide_eq_true_eq, Bool.not_eq_true', decide_eq_false_iff_not, and_assoc, tYes, ↓reduceIte, wipe, Bool.false_eq_true, Bool.true_eq_false, cxOf, false_implies, true_implies, implies_true, forall_const]
    exact ⟨m0, k _ h' (Int.emod_nonneg n (by omega)) (Int.emod_lt_of_pos n m0) hd b⟩
def sp_l_whole (_ : PySem.W.Frag) : Sp := fun vs H Q _ => ∃ x : V, vs = [x] ∧ Plain H x ∧ Q (.bl (isI x)) H
theorem len_l_whole {vs H Q E} (h : sp_l_whole K vs H Q E) : vs.length = 1 := by
  obtain ⟨_, rfl, _⟩ := h; rfl
theorem ok_l_whole {f : Addr} {fd : FuncData} (F : Fun K "_law_whole" "_law_whole" s_l_whole f fd) (T : Txt K mg cBadPool cBadLot) : FnOk P w K mg base CX0 1 f fd ps_l_whole (sp_l_whole K) := by
  refine F.ok (k := 0) sc_l_whole (fun vs H Q E h => len_l_whole h) (fun cdv A outer s H vs Q E hr h => ?_)
  refine ⟨_, (pss_one (ps_ret (pe_and (pe_callB call_isi (by rfl) T.n_isinstance (by decide +kernel) (pa_cons (pv 0) (pa_cons (pe_bltn (v := .ty "int") (by rfl) T.n_int (by decide +kernel) rfl) pa_nil))) (pe_one (pe_not (pe_callB call_isi (by rfl) T.n_isinstance (by decide +kernel) (pa_cons (pv 0) (pa_cons (pe_bltn (v := .ty "bool") (by rfl) T.n_bool (by decide +kernel) rfl) pa_nil)))))))), ?_⟩
  obtain ⟨x, rfl, hp, q⟩ := h
  simp only [tSeq, tAsg, tDrop, tRet, tRetN, tIfS, tNext, tTest, tB, tNot, tAnd, tOr, tChain, tIf, tAndV, tOrV, tNotV, tOp, tUn, tCB, tCons, tNil, tVar, tC, tCall, tCallS, gName, rI, rI0, rU, rEq, rNe, tTup, tLst, gSub, rSetL, rIxL, rIxT, L2.start, List.map_cons, List.map_nil, List.length_cons, List.length_nil, Nat.reduceAdd, Nat.reduceSub, List.replicate_succ, List.replicate_zero, List.getElem?_cons_zero, List.getElem?_cons_succ, List.set_cons_zero, List.set_cons_succ, Option.some.injEq, exists_eq_left', exists_eq_left, exists_and_left, V.int.injEq, V.bl.injEq, V.ref.injEq, V.str.injEq, List.cons.injEq, and_true, true_and, List.nil_append, List.cons_append, List.append_nil, reduceCtorEq, false_and, exists_false, or_false, false_or, and_false, Int.reduceNeg, decide_eq_true_eq, Bool.not_eq_true', decide_eq_false_iff_not, and_assoc, tYes, ↓reduceIte, wipe, Bool.false_eq_true, Bool.true_eq_false, cxOf, false_implies, true_implies, implies_true, forall_const]
  refine isi_int hp ?_
  cases x with
  | int i => exact ⟨true, rfl, iteT (isi_bool hp ⟨false, rfl, q⟩)⟩
  | bl i => exact ⟨true, rfl, iteT (isi_bool hp ⟨true, rfl, q⟩)⟩
  | _ => exact ⟨false, rfl, iteF q⟩
def sp_l_lot_like (_ : PySem.W.Frag) : Sp := fun vs H Q _ => ∃ (a : Addr) (zs : List Int), vs = [.ref a] ∧ H a = some (.tup (zs.map V.int)) ∧ zs.length ≤ 12 ∧ (∀ n, n ∈ zs → 1 ≤ n) ∧ zs.Pairwise (· ≤ ·) ∧ ∀ H', Same H H' → Q (.bl true) H'
theorem len_l_lot_like {vs H Q E} (h : sp_l_lot_like K vs H Q E) : vs.length = 1 := by
  obtain ⟨_, _, rfl, _⟩ := h; rfl
theorem ok_l_lot_like {f : Addr} {fd : FuncData} (F : Fun K "_law_lot_like" "_law_lot_like" s_l_lot_like f fd) (T : Txt K mg cBadPool cBadLot) : FnOk P w K mg base CX0 2 f fd ps_l_lot_like (sp_l_lot_like K) := by
  obtain ⟨f_l_whole, fd_l_whole, F_l_whole, m_l_whole, b_l_whole⟩ := T.d_l_whole
  have G_l_whole : FnOk P w K mg base CX0 1 f_l_whole fd_l_whole ps_l_whole (sp_l_whole K) := ok_l_whole F_l_whole T
  refine F.ok (k := 1) sc_l_lot_like (fun vs H Q E h => len_l_lot_like h) (fun cdv A outer s H vs Q E hr h => ?_)
  refine ⟨_, (pss_cons (ps_if (PW.pt (pw_or (pt_not (pt_val (pe_callB call_isi (by rfl) T.n_isinstance (by decide +kernel) (pa_cons (pv 0) (pa_cons (pe_bltn (v := .ty "tuple") (by rfl) T.n_tuple (by decide +kernel) rfl) pa_nil))))) (pw_or1 (pt_not (pt_val (pe_callB (cr_all rfl) (by rfl) T.n_all (by decide +kernel) (pa_cons (pe_lc (own := [("_law_coin", 1)]) (g := gName 1) (tt := tYes) rfl sc_l_lot_like.nd (pi_tup (pv 0)) (blkOk_by (N := nm_l_lot_like) (sc := defScope s_l_lot_like) (by decide +kernel)) (fun _ _ _ _ _ => (pg_name (i := 1) sc_l_lot_like.nd rfl (Or.inl rfl))) (fun _ _ _ _ _ => pts_nil) (fun _ _ _ _ _ => (pe_and (pe_call G_l_whole (hr.mono (by decide)) (by rfl) m_l_whole F_l_whole.kp b_l_whole .nil pass0 (pa_cons (pv 1) pa_nil)) (pe_one (pe_cmpR op_gt (pv 1) pe_int (nomark _)))))) pa_nil))))))) (pss_one (ps_ret pe_bl)) pss_nil)
      (pss_one (ps_ret (pe_cmpR (op_eqD hr.units) (pe_callTy call_list_of (by rfl) T.n_list (by decide +kernel) (pa_cons (pv 0) pa_nil)) (pe_callB cr_sortedE (by rfl) T.n_sorted (by decide +kernel) (pa_cons (pv 0) pa_nil)) (nomark _))))), ?_⟩
  obtain ⟨a, zs, rfl, ha, hl, h1, hs, k⟩ := h
  simp only [tSeq, tAsg, tDrop, tRet, tRetN, tIfS, tNext, tTest, tB, tNot, tAnd, tOr, tChain, tIf, tAndV, tOrV, tNotV, tOp, tUn, tCB, tCons, tNil, tVar, tC, tCall, tCallS, gName, rI, rI0, rU, rEq, rNe, tTup, tLst, gSub, rSetL, rIxL, rIxT, L2.start, List.map_cons, List.map_nil, List.length_cons, List.length_nil, Nat.reduceAdd, Nat.reduceSub, List.replicate_succ, List.replicate_zero, List.getElem?_cons_zero, List.getElem?_cons_succ, List.set_cons_zero, List.set_cons_succ, Option.some.injEq, exists_eq_left', exists_eq_left, exists_and_left, V.int.injEq, V.bl.injEq, V.ref.injEq, V.str.injEq, List.cons.injEq, and_true, true_and, List.nil_append, List.cons_append, List.append_nil, reduceCtorEq, false_and, exists_false, or_false, false_or, and_false, Int.reduceNeg, decide_eq_true_eq, Bool.not_eq_true', decide_eq_false_iff_not, and_assoc, tYes, ↓reduceIte, wipe, Bool.false_eq_true, Bool.true_eq_false, cxOf, false_implies, true_implies, implies_true, forall_const]
  refine isi_tuple ha ⟨_, rfl, ?_⟩
  rw [if_neg (fun z => by cases z)]
  refine ⟨_, rfl, a, rfl, ⟨_, SqT.of ha⟩, fun D hD => lc_tup (K := K) (a := a) (xs := zs.map V.int) (fun i h' => Same H h' ∧ h' D = some (.lst ((List.replicate i true).map V.bl))) ⟨Same.new hD, upd_same⟩ (fun i h' _ ⟨s, _⟩ => SqT.of (s _ _ ha)) ?_ ?_⟩
  · rintro i z h' hi ⟨s3, eD⟩
    obtain ⟨g, hg, rfl⟩ := nat_map hi
    have il := (List.getElem?_eq_some_iff.mp hg).1
    have g1 := h1 g (List.mem_of_getElem? hg)
    simp only [tSeq, tAsg, tDrop, tRet, tRetN, tIfS, tNext, tTest, tB, tNot, tAnd, tOr, tChain, tIf, tAndV, tOrV, tNotV, tOp, tUn, tCB, tCons, tNil, tVar, tC, tCall, tCallS, gName, rI, rI0, rU, rEq, rNe, tTup, tLst, gSub, rSetL, rIxL, rIxT, L2.start, List.map_cons, List.map_nil, List.length_cons, List.length_nil, Nat.reduceAdd, Nat.reduceSub, List.replicate_succ, List.replicate_zero, List.getElem?_cons_zero, List.getElem?_cons_succ, List.set_cons_zero, List.set_cons_succ, Option.some.injEq, exists_eq_left', exists_eq_left, exists_and_left, V.int.injEq, V.bl.injEq, V.ref.injEq, V.str.injEq, List.cons.injEq, and_true, true_and, List.nil_append, List.cons_append, List.append_nil, reduceCtorEq, false_and, exists_false, or_false, false_or, and_false, Int.reduceNeg, decide_eq_true_eq, Bool.not_eq_true', decide_eq_false_iff_not, and_assoc, tYes, ↓reduceIte, wipe, Bool.false_eq_true, Bool.true_eq_false, cxOf, false_implies, true_implies, implies_true, forall_const, sp_l_whole, isI]
    refine ⟨True.intro, _, eD, by rw [List.length_map, List.length_replicate]; exact small1000 (by omega), fun b o e => ?_, ?_⟩
    · rw [upd_ne (ne_of_none e hD)]
      exact s3 b o e
    · rw [upd_same, decide_eq_true (show (0 : Int) < g by omega), show (List.map V.bl (List.replicate i true) ++ [V.bl true]) = List.map V.bl (List.replicate (i + 1) true) by rw [List.replicate_succ', List.map_append]; rfl]
      try rfl
  · rintro h' ⟨s3, eD⟩
    refine ⟨D, _, rfl, SqL.of eD, _, rfl, ?_⟩
    rw [if_neg (by simp)]
    refine ⟨_, .inr (SqT.of (s3 _ _ ha)), fun l hl0 => ⟨a, zs, rfl, .inr (SqT.of ((Same.new hl0) _ _ (s3 _ _ ha))), fun ks p p1 p2 hp => ?_⟩⟩
    have e := PySem.W.os_sorted_one p1 p2 hs
    subst e
    refine eq_listI (SqL.of ((Same.new hp) _ _ upd_same)) (SqL.of upd_same) ?_
    rw [decide_eq_true rfl]
    exact k _ (s3.trans ((Same.new hl0).trans (Same.new hp)))
def sp_l_serving (_ : PySem.W.Frag) : Sp := fun vs H Q _ => ∃ (h q : Addr) (n : Int), vs = [.ref h, .int n, .int 2] ∧ HandAt H h q ∧ 0 ≤ n ∧ n ≤ 12 ∧
  ∀ (H' : Hp) (b : Addr) (ms : List Int), HandAt H' h q → But h H H' → H' b = some (.lst (ms.map V.int)) → H b = none → ms.length = n.toNat → (∀ m, m ∈ ms → 1 ≤ m ∧ m ≤ 5000) → ms.Pairwise (· ≤ ·) → Q (.ref b) H'
theorem len_l_serving {vs H Q E} (h : sp_l_serving K vs H Q E) : vs.length = 3 := by
  obtain ⟨_, _, _, rfl, _⟩ := h; rfl
theorem ok_l_serving {f : Addr} {fd : FuncData} (F : Fun K "_law_serving" "_law_serving" s_l_serving f fd) (T : Txt K mg cBadPool cBadLot) : FnOk P w K mg base CX0 3 f fd ps_l_serving (sp_l_serving K) := by
  obtain ⟨f_l_draw, fd_l_draw, F_l_draw, m_l_draw, b_l_draw⟩ := T.d_l_draw
  have G_l_draw : FnOk P w K mg base CX0 2 f_l_draw fd_l_draw ps_l_draw (sp_l_draw K) := ok_l_draw F_l_draw T
  refine F.ok (k := 2) sc_l_serving (fun vs H Q E h => len_l_serving h) (fun cdv A outer s H vs Q E hr h => ?_)
  refine ⟨_, (pss_cons (ps_set (i := 3) sc_l_serving.nd rfl (Or.inl rfl) (pe_lst pa_nil))
      (pss_cons (ps_for PassesOwn.never rfl (pi_range1 (by rfl) T.n_range (pa_cons (pv 1) pa_nil)) (pg_name (i := 4) sc_l_serving.nd rfl (Or.inl rfl))
      (pss_cons (ps_set (i := 5) sc_l_serving.nd rfl (Or.inl rfl) (pe_ifExp (pt_cmpR op_gt (pv 2) pe_int (nomark _)) (pe_op op_add (pe_op op_fdivW (pe_callB (cr_sumE rfl) (by rfl) T.n_sum (by decide +kernel) (pa_cons (pv 3) pa_nil)) (pe_op op_sub (pv 2) pe_int)) pe_int) (pe_op op_add (pe_callB (cr_sumE rfl) (by rfl) T.n_sum (by decide +kernel) (pa_cons (pv 3) pa_nil)) pe_int)))
      (pss_cons (ps_set (i := 6) sc_l_serving.nd rfl (Or.inl rfl) (pe_call G_l_draw (hr.mono (by decide)) (by rfl) m_l_draw F_l_draw.kp b_l_draw .nil pass0 (pa_cons (pv 0) (pa_cons pe_int pa_nil))))
      (pss_one (ps_expr (pe_bm PySem.F.plainAttrs_list PySem.F.slot_list_append PySem.F.type_list_append mt_append (pv 3) (pa_cons (pe_ifExp (pt_cmpR op_eq (pv 6) pe_int (nomark _)) (pv 5) (pe_op op_add pe_int (pe_call G_l_draw (hr.mono (by decide)) (by rfl) m_l_draw F_l_draw.kp b_l_draw .nil pass0 (pa_cons (pv 0) (pa_cons (pv 5) pa_nil))))) pa_nil)))))))
      (pss_one (ps_ret (pe_callB cr_sortedE (by rfl) T.n_sorted (by decide +kernel) (pa_cons (pv 3) pa_nil)))))), ?_⟩
  obtain ⟨h, q, n, rfl, hh, n0, n1, k⟩ := h
  simp only [tSeq, tAsg, tDrop, tRet, tRetN, tIfS, tNext, tTest, tB, tNot, tAnd, tOr, tChain, tIf, tAndV, tOrV, tNotV, tOp, tUn, tCB, tCons, tNil, tVar, tC, tCall, tCallS, gName, rI, rI0, rU, rEq, rNe, tTup, tLst, gSub, rSetL, rIxL, rIxT, L2.start, List.map_cons, List.map_nil, List.length_cons, List.length_nil, Nat.reduceAdd, Nat.reduceSub, List.replicate_succ, List.replicate_zero, List.getElem?_cons_zero, List.getElem?_cons_succ, List.set_cons_zero, List.set_cons_succ, Option.some.injEq, exists_eq_left', exists_eq_left, exists_and_left, V.int.injEq, V.bl.injEq, V.ref.injEq, V.str.injEq, List.cons.injEq, and_true, true_and, List.nil_append, List.cons_append, List.append_nil, reduceCtorEq, false_and, exists_false, or_false, false_or, and_false, Int.reduceNeg, decide_eq_true_eq, Bool.not_eq_true', decide_eq_false_iff_not, and_assoc, tYes, ↓reduceIte, wipe, Bool.false_eq_true, Bool.true_eq_false, cxOf, false_implies, true_implies, implies_true, forall_const, spDraw]
  refine ⟨Nat.zero_le _, fun D hD => ?_⟩
  have n1' := hh.off hD
  have n2' := handOffq hh hD
  refine ⟨_, rfl, n, rfl, by omega, by omega, for_range (lo := 0) (n := n.toNat) (fun i z H' => ∃ (ms : List Int) (v4 v5 v6 : Option V), z = [some (.ref h), some (.int n), some (.int 2), some (.ref D), v4, v5, v6] ∧ HandAt H' h q ∧ But h H H' ∧ H' D = some (.lst (ms.map V.int)) ∧ ms.length = i ∧ ms.sum ≤ 2 ^ i - 1 ∧ ∀ m, m ∈ ms → 1 ≤ m ∧ m ≤ 4100)
    ⟨[], none, none, none, rfl, hh.same (Same.new hD), But.new hD, upd_same, rfl, by decide, fun m hm => absurd hm List.not_mem_nil⟩ ?_ ?_⟩
  · rintro i z H' hi ⟨ms, v4, v5, v6, rfl, hd, bt, eD, ln, sm, mb⟩
    have s0 : 0 ≤ ms.sum := (sum_box (B := 4100) (by decide) fun m hm => ⟨by have := (mb m hm).1; omega, (mb m hm).2⟩).1
    have i2 : (2 : Int) ^ i ≤ 2 ^ 11 := pow2_le (by omega)
    have i3 : (2 : Int) ^ 11 = 2048 := by decide
    have e2 : (2 : Int) ^ (i + 1) = 2 * 2 ^ i := by rw [Int.pow_succ, Int.mul_comm]
    simp only [tSeq, tAsg, tDrop, tRet, tRetN, tIfS, tNext, tTest, tB, tNot, tAnd, tOr, tChain, tIf, tAndV, tOrV, tNotV, tOp, tUn, tCB, tCons, tNil, tVar, tC, tCall, tCallS, gName, rI, rI0, rU, rEq, rNe, tTup, tLst, gSub, rSetL, rIxL, rIxT, L2.start, List.map_cons, List.map_nil, List.length_cons, List.length_nil, Nat.reduceAdd, Nat.reduceSub, List.replicate_succ, List.replicate_zero, List.getElem?_cons_zero, List.getElem?_cons_succ, List.set_cons_zero, List.set_cons_succ, Option.some.injEq, exists_eq_left', exists_eq_left, exists_and_left, V.int.injEq, V.bl.injEq, V.ref.injEq, V.str.injEq, List.cons.injEq, and_true, true_and, List.nil_append, List.cons_append, List.append_nil, reduceCtorEq, false_and, exists_false, or_false, false_or, and_false, Int.reduceNeg, decide_eq_true_eq, Bool.not_eq_true', decide_eq_false_iff_not, and_assoc, tYes, ↓reduceIte, wipe, Bool.false_eq_true, Bool.true_eq_false, cxOf, false_implies, true_implies, implies_true, forall_const, rSumE, spDraw, tBM, rAppend]
    rw [if_pos (by decide)]
    have e1 : ms.sum / (2 - 1) + 1 = ms.sum + 1 := by rw [show (2 : Int) - 1 = 1 from rfl, Int.ediv_one]
    refine ⟨ms, .inl (SqL.of eD), cdw (by decide) (by decide), ?_⟩
    rw [e1]
    have add : ∀ (Hx : Hp) (g : Int), 1 ≤ g → g ≤ ms.sum + 1 → HandAt Hx h q → But h H Hx → Hx D = some (.lst (ms.map V.int)) →
        ∃ x, Hx D = some (HO.lst x) ∧ x.length < sizeLine ∧ HandAt (upd Hx D (HO.lst (x ++ [V.int g]))) h q ∧ But h H (upd Hx D (HO.lst (x ++ [V.int g]))) ∧
          ∃ x_3 : List Int, upd Hx D (HO.lst (x ++ [V.int g])) D = some (HO.lst (x_3.map V.int)) ∧ x_3.length = i + 1 ∧ x_3.sum ≤ 2 ^ (i + 1) - 1 ∧ ∀ m : Int, m ∈ x_3 → 1 ≤ m ∧ m ≤ 4100 := by
      intro Hx g g1 g2 hx bx ex
      refine ⟨_, ex, by rw [List.length_map]; exact small1000 (by omega), handPut hx n1' n2', butAt bx hD, ms ++ [g], by rw [upd_same, List.map_append]; rfl, by rw [List.length_append, ln]; rfl, ?_, fun m hm => ?_⟩
      · rw [List.sum_append, e2]
        simp
        omega
      · rcases List.mem_append.mp hm with hm | hm
        · exact mb m hm
        · rw [List.mem_singleton.mp hm]
          exact ⟨by omega, by omega⟩
    refine ⟨q, hd, by decide, by decide, fun y H1 y0 y1 hd1 b1 => ?_⟩
    have eD1 := b1 _ _ eD n1'
    refine ⟨.inl ⟨rfl, _, SqL.of eD1⟩, rfl, ?_⟩
    split
    · exact add H1 (ms.sum + 1) (by omega) (by omega) hd1 (bt.trans b1) eD1
    · exact ⟨q, hd1, by omega, by omega, fun y2 H2 y20 y21 hd2 b2 => add H2 (1 + y2) (by omega) (by omega) hd2 ((bt.trans b1).trans b2) (b2 _ _ eD1 n1')⟩
  · rintro z H' ⟨ms, v4, v5, v6, rfl, hd, bt, eD, ln, sm, mb⟩
    simp only [tSeq, tAsg, tDrop, tRet, tRetN, tIfS, tNext, tTest, tB, tNot, tAnd, tOr, tChain, tIf, tAndV, tOrV, tNotV, tOp, tUn, tCB, tCons, tNil, tVar, tC, tCall, tCallS, gName, rI, rI0, rU, rEq, rNe, tTup, tLst, gSub, rSetL, rIxL, rIxT, L2.start, List.map_cons, List.map_nil, List.length_cons, List.length_nil, Nat.reduceAdd, Nat.reduceSub, List.replicate_succ, List.replicate_zero, List.getElem?_cons_zero, List.getElem?_cons_succ, List.set_cons_zero, List.set_cons_succ, Option.some.injEq, exists_eq_left', exists_eq_left, exists_and_left, V.int.injEq, V.bl.injEq, V.ref.injEq, V.str.injEq, List.cons.injEq, and_true, true_and, List.nil_append, List.cons_append, List.append_nil, reduceCtorEq, false_and, exists_false, or_false, false_or, and_false, Int.reduceNeg, decide_eq_true_eq, Bool.not_eq_true', decide_eq_false_iff_not, and_assoc, tYes, ↓reduceIte, wipe, Bool.false_eq_true, Bool.true_eq_false, cxOf, false_implies, true_implies, implies_true, forall_const, rSortedE]
    refine ⟨ms, .inl (SqL.of eD), fun ks l p1 p2 hl => k _ l ks (hd.same (Same.new hl)) (bt.trans (But.new hl)) upd_same (but_free bt hd hl) (by rw [p1.length_eq]; exact ln) (fun m hm => ⟨(mb m (p1.mem_iff.mp hm)).1, by have := (mb m (p1.mem_iff.mp hm)).2; omega⟩) p2⟩
def sp_l_pool (_ : PySem.W.Frag) : Sp := fun vs H Q _ => ∃ (h q : Addr), vs = [.ref h, .int 12, .int 2] ∧ HandAt H h q ∧ GivesS h q 12 H Q
theorem len_l_pool {vs H Q E} (h : sp_l_pool K vs H Q E) : vs.length = 3 := by
  obtain ⟨_, _, rfl, _⟩ := h; rfl
theorem ok_l_pool {f : Addr} {fd : FuncData} (F : Fun K "_law_pool" "_law_pool" s_l_pool f fd) (T : Txt K mg cBadPool cBadLot) : FnOk P w K mg base CX0 4 f fd ps_l_pool (sp_l_pool K) := by
  obtain ⟨f_l_draw, fd_l_draw, F_l_draw, m_l_draw, b_l_draw⟩ := T.d_l_draw
  have G_l_draw : FnOk P w K mg base CX0 2 f_l_draw fd_l_draw ps_l_draw (sp_l_draw K) := ok_l_draw F_l_draw T
  obtain ⟨f_l_serving, fd_l_serving, F_l_serving, m_l_serving, b_l_serving⟩ := T.d_l_serving
  have G_l_serving : FnOk P w K mg base CX0 3 f_l_serving fd_l_serving ps_l_serving (sp_l_serving K) := ok_l_serving F_l_serving T
  refine F.ok (k := 3) sc_l_pool (fun vs H Q E h => len_l_pool h) (fun cdv A outer s H vs Q E hr h => ?_)
  refine ⟨_, (pss_cons (ps_set (i := 3) sc_l_pool.nd rfl (Or.inl rfl) (pe_callB (call_max2 rfl) (by rfl) T.n_max (by decide +kernel) (pa_cons (pe_call G_l_draw (hr.mono (by decide)) (by rfl) m_l_draw F_l_draw.kp b_l_draw .nil pass0 (pa_cons (pv 0) (pa_cons (pe_op op_add (pv 1) pe_int) pa_nil))) (pa_cons (pe_call G_l_draw (hr.mono (by decide)) (by rfl) m_l_draw F_l_draw.kp b_l_draw .nil pass0 (pa_cons (pv 0) (pa_cons (pe_op op_add (pv 1) pe_int) pa_nil))) pa_nil))))
      (pss_cons (ps_set (i := 4) sc_l_pool.nd rfl (Or.inl rfl) (pe_call G_l_draw (hr.mono (by decide)) (by rfl) m_l_draw F_l_draw.kp b_l_draw .nil pass0 (pa_cons (pv 0) (pa_cons pe_int pa_nil))))
      (pss_cons (ps_if (pt_cmpR op_gt (pv 4) pe_int (nomark _)) (pss_one (ps_ret (pe_callB cr_sortedE (by rfl) T.n_sorted (by decide +kernel) (pa_cons (pe_lc (own := [("_law_k", 5)]) (g := gName 5) (tt := tYes) rfl sc_l_pool.nd (pi_range1 (by rfl) T.n_range (pa_cons (pv 3) pa_nil)) (blkOk_by (N := nm_l_pool) (sc := defScope s_l_pool) (by decide +kernel)) (fun _ _ _ _ _ => (pg_name (i := 5) sc_l_pool.nd rfl (Or.inl rfl))) (fun _ _ _ _ _ => pts_nil) (fun _ _ _ _ _ => (pe_op op_add pe_int (pe_call G_l_draw (hr.mono (by decide)) (by rfl) m_l_draw F_l_draw.kp b_l_draw .nil pass0 (pa_cons (pv 0) (pa_cons pe_int pa_nil)))))) pa_nil)))) pss_nil)
      (pss_cons (ps_set (i := 6) sc_l_pool.nd rfl (Or.inl rfl) (pe_call G_l_serving (hr.mono (by decide)) (by rfl) m_l_serving F_l_serving.kp b_l_serving .nil pass0 (pa_cons (pv 0) (pa_cons (pv 3) (pa_cons (pv 2) pa_nil)))))
      (pss_cons (ps_if (PW.pt (pw_and (pt_cmpR op_gt (pv 4) pe_int (nomark _)) (pw_and1 (pt_cmpR op_gt (pv 3) pe_int (nomark _))))) (pss_cons (ps_set (i := 7) sc_l_pool.nd rfl (Or.inl rfl) (pe_call G_l_draw (hr.mono (by decide)) (by rfl) m_l_draw F_l_draw.kp b_l_draw .nil pass0 (pa_cons (pv 0) (pa_cons (pv 3) pa_nil))))
      (pss_one (ps_asg (pe_op op_add (pe_op op_add (pe_ix ix_list (pv 6) (pv 7) (fun _ _ => rfl)) pe_int) (pe_call G_l_draw (hr.mono (by decide)) (by rfl) m_l_draw F_l_draw.kp b_l_draw .nil pass0 (pa_cons (pv 0) (pa_cons pe_int pa_nil)))) (pg_sub (pv 6) (pv 7) set_list)))) pss_nil)
      (pss_one (ps_ret (pe_callB cr_sortedE (by rfl) T.n_sorted (by decide +kernel) (pa_cons (pv 6) pa_nil))))))))), ?_⟩
  obtain ⟨h, q, rfl, hh, k⟩ := h
  simp only [tSeq, tAsg, tDrop, tRet, tRetN, tIfS, tNext, tTest, tB, tNot, tAnd, tOr, tChain, tIf, tAndV, tOrV, tNotV, tOp, tUn, tCB, tCons, tNil, tVar, tC, tCall, tCallS, gName, rI, rI0, rU, rEq, rNe, tTup, tLst, gSub, rSetL, rIxL, rIxT, L2.start, List.map_cons, List.map_nil, List.length_cons, List.length_nil, Nat.reduceAdd, Nat.reduceSub, List.replicate_succ, List.replicate_zero, List.getElem?_cons_zero, List.getElem?_cons_succ, List.set_cons_zero, List.set_cons_succ, Option.some.injEq, exists_eq_left', exists_eq_left, exists_and_left, V.int.injEq, V.bl.injEq, V.ref.injEq, V.str.injEq, List.cons.injEq, and_true, true_and, List.nil_append, List.cons_append, List.append_nil, reduceCtorEq, false_and, exists_false, or_false, false_or, and_false, Int.reduceNeg, decide_eq_true_eq, Bool.not_eq_true', decide_eq_false_iff_not, and_assoc, tYes, ↓reduceIte, wipe, Bool.false_eq_true, Bool.true_eq_false, cxOf, false_implies, true_implies, implies_true, forall_const, spDraw]
  refine ⟨q, hh, by decide, by decide, fun d H1 d0 d1 hh1 b1 => ⟨q, hh1, by decide, by decide, fun e H2 e0 e1 hh2 b2 => ⟨q, hh2, by decide, by decide, fun t H3 t0 t1 hh3 b3 => ?_⟩⟩⟩
  have bM := max_box d0 d1 e0 e1
  generalize (if e > d then e else d) = M at bM ⊢
  have b03 := (b1.trans b2).trans b3
  split
  · refine ⟨_, rfl, M, rfl, by omega, by omega, fun D hD => ?_⟩
    have n1 := hh3.off hD
    have n2 := handOffq hh3 hD
    refine lc_range (lo := 0) (n := M.toNat) (fun i h' => ∃ ms : List Int, HandAt h' h q ∧ But h H h' ∧ h' D = some (.lst (ms.map V.int)) ∧ ms.length = i ∧ ∀ m, m ∈ ms → 1 ≤ m ∧ m ≤ 1000000000)
      ⟨[], hh3.same (Same.new hD), b03.trans (But.new hD), upd_same, rfl, fun m hm => absurd hm List.not_mem_nil⟩ ?_ ?_
    · rintro i h' hi ⟨ms, hd, bt, eD, ln, mb⟩
      simp only [tSeq, tAsg, tDrop, tRet, tRetN, tIfS, tNext, tTest, tB, tNot, tAnd, tOr, tChain, tIf, tAndV, tOrV, tNotV, tOp, tUn, tCB, tCons, tNil, tVar, tC, tCall, tCallS, gName, rI, rI0, rU, rEq, rNe, tTup, tLst, gSub, rSetL, rIxL, rIxT, L2.start, List.map_cons, List.map_nil, List.length_cons, List.length_nil, Nat.reduceAdd, Nat.reduceSub, List.replicate_succ, List.replicate_zero, List.getElem?_cons_zero, List.getElem?_cons_succ, List.set_cons_zero, List.set_cons_succ, Option.some.injEq, exists_eq_left', exists_eq_left, exists_and_left, V.int.injEq, V.bl.injEq, V.ref.injEq, V.str.injEq, List.cons.injEq, and_true, true_and, List.nil_append, List.cons_append, List.append_nil, reduceCtorEq, false_and, exists_false, or_false, false_or, and_false, Int.reduceNeg, decide_eq_true_eq, Bool.not_eq_true', decide_eq_false_iff_not, and_assoc, tYes, ↓reduceIte, wipe, Bool.false_eq_true, Bool.true_eq_false, cxOf, false_implies, true_implies, implies_true, forall_const, spDraw]
      refine ⟨q, hd, by decide, by decide, fun y H4 y0 y1 hd4 b4 => ?_⟩
      have fD : H D = none := but_free b03 hh3 hD
      refine ⟨_, b4 _ _ eD n1, by rw [List.length_map]; exact small1000 (by omega), handPut hd4 n1 n2, butAt (bt.trans b4) fD, ms ++ [1 + y], by rw [upd_same, List.map_append]; rfl, by rw [List.length_append, ln]; rfl, fun m hm => ?_⟩
      rcases List.mem_append.mp hm with hm | hm
      · exact mb m hm
      · rw [List.mem_singleton.mp hm]
        exact ⟨by omega, by omega⟩
    · rintro h' ⟨ms, hd, bt, eD, ln, mb⟩
      exact ⟨D, ms, rfl, .inl (SqL.of eD), fun ks l p1 p2 hl => k _ l ks (hd.same (Same.new hl)) (bt.trans (But.new hl)) upd_same (hd.off hl) (by rw [p1.length_eq]; omega) (fun m hm => mb m (p1.mem_iff.mp hm)) p2⟩
  · refine ⟨h, q, M, rfl, hh3, bM.1, bM.2, fun H4 b ms hh4 b4 eb fb ln mb so => ?_⟩
    have nb : b ≠ h := hh3.off fb
    have nq : b ≠ q := handOffq hh3 fb
    have fin : ∀ (Hx : Hp) (ks : List Int), HandAt Hx h q → But h H Hx → Hx b = some (.lst (ks.map V.int)) → ks.length ≤ 12 → (∀ m, m ∈ ks → 1 ≤ m ∧ m ≤ 1000000000) → rSortedE K [V.ref b] Hx Q := fun Hx ks hx bx ex lx kb =>
      ⟨b, ks, rfl, .inl (SqL.of ex), fun zs l p1 p2 hl => k _ l zs (hx.same (Same.new hl)) (bx.trans (But.new hl)) upd_same (hx.off hl) (by rw [p1.length_eq]; exact lx) (fun m hm => kb m (p1.mem_iff.mp hm)) p2⟩
    have fb0 : H b = none := but_free b03 hh3 fb
    have mb' : ∀ m, m ∈ ms → 1 ≤ m ∧ m ≤ 1000000000 := fun m hm => ⟨(mb m hm).1, by have := (mb m hm).2; omega⟩
    split
    · split
      · refine ⟨q, hh4, by omega, by omega, fun j H5 j0 j1 hh5 b5 => ?_⟩
        obtain ⟨j, rfl⟩ := Int.eq_ofNat_of_zero_le j0
        have jl : j < ms.length := by omega
        have e5 := b5 _ _ eb nb
        refine ⟨b, rfl, _, SqL.of e5, _, atI_nat (by rw [List.getElem?_map, List.getElem?_eq_getElem jl]; rfl), _, rfl, q, hh5, by decide, by decide, fun y H6 y0 y1 hh6 b6 => ?_⟩
        have e6 := b6 _ _ e5 nb
        refine ⟨b, rfl, _, e6, j, ?_, fin _ (ms.set j (ms[j] + 1 + y)) (handPut hh6 nb nq) (butAt (((b03.trans b4).trans b5).trans b6) fb0) (by rw [upd_same, List.map_set]) (by rw [List.length_set]; omega) fun m hm => ?_⟩
        · unfold ixN
          rw [if_pos (by omega), if_pos (by rw [List.length_map]; omega)]
          simp
        · rcases List.mem_or_eq_of_mem_set hm with hm | rfl
          · exact mb' m hm
          · have := mb ms[j] (List.getElem_mem jl)
            exact ⟨by omega, by omega⟩
      · exact fin H4 ms hh4 (b03.trans b4) eb (by omega) mb'
    · exact fin H4 ms hh4 (b03.trans b4) eb (by omega) mb'
end
end My
set_option Elab.async false
set_option linter.all false
set_option maxRecDepth 100000
set_option maxHeartbeats 4000000
namespace My
open PySem PySem.Spec PyProof.Rows L2 Gen
section
variable {P : Program} {w : World} {K : PySem.W.Frag} {mg : Str → Option Value} {base : Heap} { cBadPool cBadLot : Addr}
theorem atI_in {xs : List V} {d : Int} (h0 : 0 ≤ d) (h1 : d < xs.length) : ∃ x, x ∈ xs ∧ atI xs d = some x := by
  obtain ⟨j, rfl⟩ := Int.eq_ofNat_of_zero_le h0
  have jl : j < xs.length := by omega
  exact ⟨xs[j], List.getElem_mem jl, atI_nat (List.getElem?_eq_getElem jl)⟩
def sp_l_great (_ : PySem.W.Frag) : Sp := fun vs H Q _ => ∃ (h q : Addr), vs = [.ref h, .int 12] ∧ HandAt H h q ∧ GivesS h q 12 H Q
theorem len_l_great {vs H Q E} (h : sp_l_great K vs H Q E) : vs.length = 2 := by
  obtain ⟨_, _, rfl, _⟩ := h; rfl
theorem ok_l_great {f : Addr} {fd : FuncData} (F : Fun K "_law_great" "_law_great" s_l_great f fd) (T : Txt K mg cBadPool cBadLot) : FnOk P w K mg base CX0 4 f fd ps_l_great (sp_l_great K) := by
  obtain ⟨f_l_draw, fd_l_draw, F_l_draw, m_l_draw, b_l_draw⟩ := T.d_l_draw
  have G_l_draw : FnOk P w K mg base CX0 2 f_l_draw fd_l_draw ps_l_draw (sp_l_draw K) := ok_l_draw F_l_draw T
  obtain ⟨f_l_big, fd_l_big, F_l_big, m_l_big, b_l_big⟩ := T.d_l_big
  have G_l_big : FnOk P w K mg base CX0 3 f_l_big fd_l_big ps_l_big (sp_l_big K) := ok_l_big F_l_big T
  refine F.ok (k := 3) sc_l_great (fun vs H Q E h => len_l_great h) (fun cdv A outer s H vs Q E hr h => ?_)
  refine ⟨_, (pss_cons (ps_set (i := 2) sc_l_great.nd rfl (Or.inl rfl) (pe_call G_l_draw (hr.mono (by decide)) (by rfl) m_l_draw F_l_draw.kp b_l_draw .nil pass0 (pa_cons (pv 0) (pa_cons (pe_op op_add (pv 1) pe_int) pa_nil))))
      (pss_cons (ps_set (i := 3) sc_l_great.nd rfl (Or.inl rfl) (pe_lst pa_nil))
      (pss_cons (ps_for PassesOwn.never rfl (pi_range1 (by rfl) T.n_range (pa_cons (pv 2) pa_nil)) (pg_name (i := 4) sc_l_great.nd rfl (Or.inl rfl))
      (pss_one (ps_if (PW.pt (pw_and (pt_cmpR op_gt (pv 4) pe_int (nomark _)) (pw_and1 (pt_cmpR op_eq (pe_call G_l_draw (hr.mono (by decide)) (by rfl) m_l_draw F_l_draw.kp b_l_draw .nil pass0 (pa_cons (pv 0) (pa_cons pe_int pa_nil))) pe_int (nomark _))))) (pss_one (ps_expr (pe_bm PySem.F.plainAttrs_list PySem.F.slot_list_append PySem.F.type_list_append mt_append (pv 3) (pa_cons (pe_ix ix_list (pv 3) (pe_call G_l_draw (hr.mono (by decide)) (by rfl) m_l_draw F_l_draw.kp b_l_draw .nil pass0 (pa_cons (pv 0) (pa_cons (pv 4) pa_nil))) (fun _ _ => rfl)) pa_nil)))) (pss_one (ps_expr (pe_bm PySem.F.plainAttrs_list PySem.F.slot_list_append PySem.F.type_list_append mt_append (pv 3) (pa_cons (pe_op op_add pe_int (pe_call G_l_big (hr.mono (by decide)) (by rfl) m_l_big F_l_big.kp b_l_big .nil pass0 (pa_cons (pv 0) (pa_cons (pe_op op_pow pe_int pe_int) pa_nil)))) pa_nil)))))))
      (pss_one (ps_ret (pe_callB cr_sortedE (by rfl) T.n_sorted (by decide +kernel) (pa_cons (pv 3) pa_nil))))))), ?_⟩
  obtain ⟨h, q, rfl, hh, k⟩ := h
  simp only [tSeq, tAsg, tDrop, tRet, tRetN, tIfS, tNext, tTest, tB, tNot, tAnd, tOr, tChain, tIf, tAndV, tOrV, tNotV, tOp, tUn, tCB, tCons, tNil, tVar, tC, tCall, tCallS, gName, rI, rI0, rU, rEq, rNe, tTup, tLst, gSub, rSetL, rIxL, rIxT, L2.start, List.map_cons, List.map_nil, List.length_cons, List.length_nil, Nat.reduceAdd, Nat.reduceSub, List.replicate_succ, List.replicate_zero, List.getElem?_cons_zero, List.getElem?_cons_succ, List.set_cons_zero, List.set_cons_succ, Option.some.injEq, exists_eq_left', exists_eq_left, exists_and_left, V.int.injEq, V.bl.injEq, V.ref.injEq, V.str.injEq, List.cons.injEq, and_true, true_and, List.nil_append, List.cons_append, List.append_nil, reduceCtorEq, false_and, exists_false, or_false, false_or, and_false, Int.reduceNeg, decide_eq_true_eq, Bool.not_eq_true', decide_eq_false_iff_not, and_assoc, tYes, ↓reduceIte, wipe, Bool.false_eq_true, Bool.true_eq_false, cxOf, false_implies, true_implies, implies_true, forall_const, spDraw]
  refine ⟨q, hh, by decide, by decide, fun d H1 d0 d1 hh1 b1 => ⟨Nat.zero_le _, fun D hD => ?_⟩⟩
  have n1 := hh1.off hD
  have n2 := handOffq hh1 hD
  have fD := but_free b1 hh1 hD
  refine ⟨_, rfl, d, rfl, by omega, by omega, for_range (lo := 0) (n := d.toNat) (fun i z H' => ∃ (ms : List Int) (v4 : Option V), z = [some (.ref h), some (.int 12), some (.int d), some (.ref D), v4] ∧ HandAt H' h q ∧ But h H H' ∧ H' D = some (.lst (ms.map V.int)) ∧ ms.length = i ∧ ∀ m, m ∈ ms → 1 ≤ m ∧ m ≤ 1000000000)
    ⟨[], none, rfl, hh1.same (Same.new hD), b1.trans (But.new hD), upd_same, rfl, fun m hm => absurd hm List.not_mem_nil⟩ ?_ ?_⟩
  · rintro i z H' hi ⟨ms, v4, rfl, hd, bt, eD, ln, mb⟩
    have e9 : (10 : Int) ^ Int.toNat 9 = 1000000000 := by decide
    have fD := but_free b1 hh1 hD
    have add : ∀ (Hx : Hp) (g : Int), 1 ≤ g → g ≤ 1000000000 → HandAt Hx h q → But h H Hx → Hx D = some (.lst (ms.map V.int)) →
        ∃ x, Hx D = some (HO.lst x) ∧ x.length < sizeLine ∧ HandAt (upd Hx D (HO.lst (x ++ [V.int g]))) h q ∧ But h H (upd Hx D (HO.lst (x ++ [V.int g]))) ∧
          ∃ x_2 : List Int, upd Hx D (HO.lst (x ++ [V.int g])) D = some (HO.lst (x_2.map V.int)) ∧ x_2.length = i + 1 ∧ ∀ m : Int, m ∈ x_2 → 1 ≤ m ∧ m ≤ 1000000000 := by
      intro Hx g g1 g2 hx bx ex
      refine ⟨_, ex, by rw [List.length_map]; exact small1000 (by omega), handPut hx n1 n2, butAt bx fD, ms ++ [g], by rw [upd_same, List.map_append]; rfl, by rw [List.length_append, ln]; rfl, fun m hm => ?_⟩
      rcases List.mem_append.mp hm with hm | hm
      · exact mb m hm
      · rw [List.mem_singleton.mp hm]
        exact ⟨g1, g2⟩
    have fresh : ∀ Hx, HandAt Hx h q → But h H Hx → Hx D = some (.lst (ms.map V.int)) → tyV K "list" (V.ref D) Hx ∧ CPow 10 9 ∧ ∃ x, HandAt Hx h x ∧ (0 : Int) < 1000000000 ∧ (1000000000 : Int) < 9223372036854775808 ∧
        ∀ (d : Int) (H' : Hp), 0 ≤ d → d < 1000000000 → HandAt H' h x → But h Hx H' → ∃ x, H' D = some (HO.lst x) ∧ x.length < sizeLine ∧ HandAt (upd H' D (HO.lst (x ++ [V.int (1 + d)]))) h q ∧ But h H (upd H' D (HO.lst (x ++ [V.int (1 + d)]))) ∧
          ∃ x_2 : List Int, upd H' D (HO.lst (x ++ [V.int (1 + d)])) D = some (HO.lst (x_2.map V.int)) ∧ x_2.length = i + 1 ∧ ∀ m : Int, m ∈ x_2 → 1 ≤ m ∧ m ≤ 1000000000 := fun Hx hx bx ex =>
      ⟨.inl ⟨rfl, _, SqL.of ex⟩, ⟨by decide, by decide, by decide⟩, q, hx, by decide, by decide, fun y H1 y0 y1 hd1 b2 => add H1 (1 + y) (by omega) (by omega) hd1 (bx.trans b2) (b2 _ _ ex n1)⟩
    simp only [tSeq, tAsg, tDrop, tRet, tRetN, tIfS, tNext, tTest, tB, tNot, tAnd, tOr, tChain, tIf, tAndV, tOrV, tNotV, tOp, tUn, tCB, tCons, tNil, tVar, tC, tCall, tCallS, gName, rI, rI0, rU, rEq, rNe, tTup, tLst, gSub, rSetL, rIxL, rIxT, L2.start, List.map_cons, List.map_nil, List.length_cons, List.length_nil, Nat.reduceAdd, Nat.reduceSub, List.replicate_succ, List.replicate_zero, List.getElem?_cons_zero, List.getElem?_cons_succ, List.set_cons_zero, List.set_cons_succ, Option.some.injEq, exists_eq_left', exists_eq_left, exists_and_left, V.int.injEq, V.bl.injEq, V.ref.injEq, V.str.injEq, List.cons.injEq, and_true, true_and, List.nil_append, List.cons_append, List.append_nil, reduceCtorEq, false_and, exists_false, or_false, false_or, and_false, Int.reduceNeg, decide_eq_true_eq, Bool.not_eq_true', decide_eq_false_iff_not, and_assoc, tYes, ↓reduceIte, wipe, Bool.false_eq_true, Bool.true_eq_false, cxOf, false_implies, true_implies, implies_true, forall_const, spDraw, tBM, rAppend, e9]
    split
    · refine ⟨q, hd, by decide, by decide, fun y H1 y0 y1 hd1 b2 => ⟨rfl, ?_⟩⟩
      have e1 := b2 _ _ eD n1
      split
      · refine ⟨.inl ⟨rfl, _, SqL.of e1⟩, q, hd1, by omega, by omega, fun j H2 j0 j1 hd2 b3 => ?_⟩
        have e2 := b3 _ _ e1 n1
        obtain ⟨j, rfl⟩ := Int.eq_ofNat_of_zero_le j0
        have jl : j < ms.length := by omega
        have := mb ms[j] (List.getElem_mem jl)
        exact ⟨_, SqL.of e2, _, atI_nat (by rw [List.getElem?_map, List.getElem?_eq_getElem jl]; rfl), add H2 ms[j] this.1 this.2 hd2 ((bt.trans b2).trans b3) e2⟩
      · exact fresh H1 hd1 (bt.trans b2) e1
    · exact fresh H' hd bt eD
  · rintro z H' ⟨ms, v4, rfl, hd, bt, eD, ln, mb⟩
    simp only [tSeq, tAsg, tDrop, tRet, tRetN, tIfS, tNext, tTest, tB, tNot, tAnd, tOr, tChain, tIf, tAndV, tOrV, tNotV, tOp, tUn, tCB, tCons, tNil, tVar, tC, tCall, tCallS, gName, rI, rI0, rU, rEq, rNe, tTup, tLst, gSub, rSetL, rIxL, rIxT, L2.start, List.map_cons, List.map_nil, List.length_cons, List.length_nil, Nat.reduceAdd, Nat.reduceSub, List.replicate_succ, List.replicate_zero, List.getElem?_cons_zero, List.getElem?_cons_succ, List.set_cons_zero, List.set_cons_succ, Option.some.injEq, exists_eq_left', exists_eq_left, exists_and_left, V.int.injEq, V.bl.injEq, V.ref.injEq, V.str.injEq, List.cons.injEq, and_true, true_and, List.nil_append, List.cons_append, List.append_nil, reduceCtorEq, false_and, exists_false, or_false, false_or, and_false, Int.reduceNeg, decide_eq_true_eq, Bool.not_eq_true', decide_eq_false_iff_not, and_assoc, tYes, ↓reduceIte, wipe, Bool.false_eq_true, Bool.true_eq_false, cxOf, false_implies, true_implies, implies_true, forall_const, rSortedE]
    exact ⟨ms, .inl (SqL.of eD), fun ks l p1 p2 hl => k _ l ks (hd.same (Same.new hl)) (bt.trans (But.new hl)) upd_same (hd.off hl) (by rw [p1.length_eq]; omega) (fun m hm => mb m (p1.mem_iff.mp hm)) p2⟩
def sp_l_turned (_ : PySem.W.Frag) : Sp := fun vs H Q _ => ∃ (h q a : Addr) (ns : List Int), vs = [.ref h, .ref a] ∧ HandAt H h q ∧ H a = some (.lst (ns.map V.int)) ∧ a ≠ h ∧ ns.length ≤ 12 ∧
  ∀ (H' : Hp) (b : Addr) (ms : List Int), HandAt H' h q → But h H H' → Row H' b (ms.map V.int) → b ≠ h → ms.Perm ns → Q (.ref b) H'
theorem len_l_turned {vs H Q E} (h : sp_l_turned K vs H Q E) : vs.length = 2 := by
  obtain ⟨_, _, _, _, rfl, _⟩ := h; rfl
theorem ok_l_turned {f : Addr} {fd : FuncData} (F : Fun K "_law_turned" "_law_turned" s_l_turned f fd) (T : Txt K mg cBadPool cBadLot) : FnOk P w K mg base CX0 3 f fd ps_l_turned (sp_l_turned K) := by
  obtain ⟨f_l_draw, fd_l_draw, F_l_draw, m_l_draw, b_l_draw⟩ := T.d_l_draw
  have G_l_draw : FnOk P w K mg base CX0 2 f_l_draw fd_l_draw ps_l_draw (sp_l_draw K) := ok_l_draw F_l_draw T
  refine F.ok (k := 2) sc_l_turned (fun vs H Q E h => len_l_turned h) (fun cdv A outer s H vs Q E hr h => ?_)
  refine ⟨_, (pss_cons (ps_set (i := 2) sc_l_turned.nd rfl (Or.inl rfl) (pe_lst pa_nil))
      (pss_cons (ps_for PassesOwn.never rfl (pi_list (pv 1)) (pg_name (i := 3) sc_l_turned.nd rfl (Or.inl rfl))
      (pss_one (ps_expr (pe_bm PySem.F.plainAttrs_list PySem.F.slot_list_insert PySem.F.type_list_insert mt_insert (pv 2) (pa_cons (pe_call G_l_draw (hr.mono (by decide)) (by rfl) m_l_draw F_l_draw.kp b_l_draw .nil pass0 (pa_cons (pv 0) (pa_cons (pe_op op_add (pe_callB call_len_seq (by rfl) T.n_len (by decide +kernel) (pa_cons (pv 2) pa_nil)) pe_int) pa_nil))) (pa_cons (pv 3) pa_nil))))))
      (pss_one (ps_ret (pe_ifExp (pt_cmpR op_eq (pe_call G_l_draw (hr.mono (by decide)) (by rfl) m_l_draw F_l_draw.kp b_l_draw .nil pass0 (pa_cons (pv 0) (pa_cons pe_int pa_nil))) pe_int (nomark _)) (pv 2) (pe_callTy call_tuple_of (by rfl) T.n_tuple (by decide +kernel) (pa_cons (pv 2) pa_nil))))))), ?_⟩
  obtain ⟨h, q, a, ns, rfl, hh, ha, na, nl, k⟩ := h
  simp only [tSeq, tAsg, tDrop, tRet, tRetN, tIfS, tNext, tTest, tB, tNot, tAnd, tOr, tChain, tIf, tAndV, tOrV, tNotV, tOp, tUn, tCB, tCons, tNil, tVar, tC, tCall, tCallS, gName, rI, rI0, rU, rEq, rNe, tTup, tLst, gSub, rSetL, rIxL, rIxT, L2.start, List.map_cons, List.map_nil, List.length_cons, List.length_nil, Nat.reduceAdd, Nat.reduceSub, List.replicate_succ, List.replicate_zero, List.getElem?_cons_zero, List.getElem?_cons_succ, List.set_cons_zero, List.set_cons_succ, Option.some.injEq, exists_eq_left', exists_eq_left, exists_and_left, V.int.injEq, V.bl.injEq, V.ref.injEq, V.str.injEq, List.cons.injEq, and_true, true_and, List.nil_append, List.cons_append, List.append_nil, reduceCtorEq, false_and, exists_false, or_false, false_or, and_false, Int.reduceNeg, decide_eq_true_eq, Bool.not_eq_true', decide_eq_false_iff_not, and_assoc, tYes, ↓reduceIte, wipe, Bool.false_eq_true, Bool.true_eq_false, cxOf, false_implies, true_implies, implies_true, forall_const]
  refine ⟨Nat.zero_le _, fun D hD => ?_⟩
  have n1 := hh.off hD
  have n2 := handOffq hh hD
  refine ⟨_, rfl, a, rfl, ⟨_, SqL.of ((Same.new hD) _ _ ha)⟩, for_list (K := K) (a := a) (xs := ns.map V.int) (fun i z H' => ∃ (ms : List Int) (v : Option V), z = [some (.ref h), some (.ref a), some (.ref D), v] ∧ HandAt H' h q ∧ But h H H' ∧ H' D = some (.lst (ms.map V.int)) ∧ ms.Perm (ns.take i))
    ⟨[], none, rfl, hh.same (Same.new hD), But.new hD, upd_same, .refl _⟩ (fun i z H' _ ⟨_, _, _, _, b, _⟩ => SqL.of (b _ _ ha na)) ?_ ?_⟩
  · rintro i y z H' hi ⟨ms, v, rfl, hd, bt, eD, pm⟩
    obtain ⟨g, hg, rfl⟩ := nat_map hi
    have il := (List.getElem?_eq_some_iff.mp hg).1
    simp only [tSeq, tAsg, tDrop, tRet, tRetN, tIfS, tNext, tTest, tB, tNot, tAnd, tOr, tChain, tIf, tAndV, tOrV, tNotV, tOp, tUn, tCB, tCons, tNil, tVar, tC, tCall, tCallS, gName, rI, rI0, rU, rEq, rNe, tTup, tLst, gSub, rSetL, rIxL, rIxT, L2.start, List.map_cons, List.map_nil, List.length_cons, List.length_nil, Nat.reduceAdd, Nat.reduceSub, List.replicate_succ, List.replicate_zero, List.getElem?_cons_zero, List.getElem?_cons_succ, List.set_cons_zero, List.set_cons_succ, Option.some.injEq, exists_eq_left', exists_eq_left, exists_and_left, V.int.injEq, V.bl.injEq, V.ref.injEq, V.str.injEq, List.cons.injEq, and_true, true_and, List.nil_append, List.cons_append, List.append_nil, reduceCtorEq, false_and, exists_false, or_false, false_or, and_false, Int.reduceNeg, decide_eq_true_eq, Bool.not_eq_true', decide_eq_false_iff_not, and_assoc, tYes, ↓reduceIte, wipe, Bool.false_eq_true, Bool.true_eq_false, cxOf, false_implies, true_implies, implies_true, forall_const, spDraw, tBM]
    have ml : ms.length ≤ 12 := by
      rw [pm.length_eq, List.length_take]
      omega
    refine ⟨.inl ⟨rfl, _, SqL.of eD⟩, _, .inl (SqL.of eD), q, hd, by omega, by rw [List.length_map]; omega, fun e H1 e0 e1 hd1 b1 => ⟨_, b1 _ _ eD n1, by rw [List.length_map]; exact small1000 (by omega), e0, by rw [List.length_map] at e1; omega, handPut hd1 n1 n2, butAt (bt.trans b1) hD, ms.take e.toNat ++ [g] ++ ms.drop e.toNat, ?_, ?_⟩⟩
    · rw [upd_same, List.map_append, List.map_append, List.map_take, List.map_drop]
      rfl
    · refine put_perm.trans ?_
      rw [List.take_add_one, hg]
      exact pm.append_right [g]
  · rintro z H' ⟨ms, v, rfl, hd, bt, eD, pm⟩
    rw [List.length_map, List.take_length] at pm
    simp only [tSeq, tAsg, tDrop, tRet, tRetN, tIfS, tNext, tTest, tB, tNot, tAnd, tOr, tChain, tIf, tAndV, tOrV, tNotV, tOp, tUn, tCB, tCons, tNil, tVar, tC, tCall, tCallS, gName, rI, rI0, rU, rEq, rNe, tTup, tLst, gSub, rSetL, rIxL, rIxT, L2.start, List.map_cons, List.map_nil, List.length_cons, List.length_nil, Nat.reduceAdd, Nat.reduceSub, List.replicate_succ, List.replicate_zero, List.getElem?_cons_zero, List.getElem?_cons_succ, List.set_cons_zero, List.set_cons_succ, Option.some.injEq, exists_eq_left', exists_eq_left, exists_and_left, V.int.injEq, V.bl.injEq, V.ref.injEq, V.str.injEq, List.cons.injEq, and_true, true_and, List.nil_append, List.cons_append, List.append_nil, reduceCtorEq, false_and, exists_false, or_false, false_or, and_false, Int.reduceNeg, decide_eq_true_eq, Bool.not_eq_true', decide_eq_false_iff_not, and_assoc, tYes, ↓reduceIte, wipe, Bool.false_eq_true, Bool.true_eq_false, cxOf, false_implies, true_implies, implies_true, forall_const, spDraw]
    refine ⟨q, hd, by decide, by decide, fun y H1 y0 y1 hd1 b1 => ⟨rfl, ?_⟩⟩
    have e1 := b1 _ _ eD n1
    split
    · exact k H1 D ms hd1 (bt.trans b1) (.inr e1) n1 pm
    · exact ⟨_, .inl ⟨SqL.of e1, fun l hl => k _ l ms (hd1.same (Same.new hl)) ((bt.trans b1).trans (But.new hl)) (.inl upd_same) (hd1.off hl) pm⟩⟩
def sp_l_lot_of (_ : PySem.W.Frag) : Sp := fun vs H Q _ => ∃ (h q a : Addr) (ns : List Int), vs = [.ref h, .ref a] ∧ HandAt H h q ∧ H a = some (.lst (ns.map V.int)) ∧ a ≠ h ∧ ns.length ≤ 12 ∧ (∀ m, m ∈ ns → 1 ≤ m ∧ m ≤ 1000000000) ∧ Gives h q 12 H Q
theorem len_l_lot_of {vs H Q E} (h : sp_l_lot_of K vs H Q E) : vs.length = 2 := by
  obtain ⟨_, _, _, _, rfl, _⟩ := h; rfl
theorem ok_l_lot_of {f : Addr} {fd : FuncData} (F : Fun K "_law_lot_of" "_law_lot_of" s_l_lot_of f fd) (T : Txt K mg cBadPool cBadLot) : FnOk P w K mg base CX0 3 f fd ps_l_lot_of (sp_l_lot_of K) := by
  obtain ⟨f_l_draw, fd_l_draw, F_l_draw, m_l_draw, b_l_draw⟩ := T.d_l_draw
  have G_l_draw : FnOk P w K mg base CX0 2 f_l_draw fd_l_draw ps_l_draw (sp_l_draw K) := ok_l_draw F_l_draw T
  refine F.ok (k := 2) sc_l_lot_of (fun vs H Q E h => len_l_lot_of h) (fun cdv A outer s H vs Q E hr h => ?_)
  refine ⟨_, (pss_one (ps_ret (pe_lc (own := [("_law_coin", 2)]) (g := gName 2) (tt := _) rfl sc_l_lot_of.nd (pi_list (pv 1)) (blkOk_by (N := nm_l_lot_of) (sc := defScope s_l_lot_of) (by decide +kernel)) (fun _ _ _ _ _ => (pg_name (i := 2) sc_l_lot_of.nd rfl (Or.inl rfl))) (fun _ _ _ _ _ => (pts_one (pt_cmpR op_eq (pe_call G_l_draw (hr.mono (by decide)) (by rfl) m_l_draw F_l_draw.kp b_l_draw .nil pass0 (pa_cons (pv 0) (pa_cons pe_int pa_nil))) pe_int (nomark _)))) (fun _ _ _ _ _ => (pv 2))))), ?_⟩
  obtain ⟨h, q, a, ns, rfl, hh, ha, na, nl, nb, k⟩ := h
  simp only [tSeq, tAsg, tDrop, tRet, tRetN, tIfS, tNext, tTest, tB, tNot, tAnd, tOr, tChain, tIf, tAndV, tOrV, tNotV, tOp, tUn, tCB, tCons, tNil, tVar, tC, tCall, tCallS, gName, rI, rI0, rU, rEq, rNe, tTup, tLst, gSub, rSetL, rIxL, rIxT, L2.start, List.map_cons, List.map_nil, List.length_cons, List.length_nil, Nat.reduceAdd, Nat.reduceSub, List.replicate_succ, List.replicate_zero, List.getElem?_cons_zero, List.getElem?_cons_succ, List.set_cons_zero, List.set_cons_succ, Option.some.injEq, exists_eq_left', exists_eq_left, exists_and_left, V.int.injEq, V.bl.injEq, V.ref.injEq, V.str.injEq, List.cons.injEq, and_true, true_and, List.nil_append, List.cons_append, List.append_nil, reduceCtorEq, false_and, exists_false, or_false, false_or, and_false, Int.reduceNeg, decide_eq_true_eq, Bool.not_eq_true', decide_eq_false_iff_not, and_assoc, tYes, ↓reduceIte, wipe, Bool.false_eq_true, Bool.true_eq_false, cxOf, false_implies, true_implies, implies_true, forall_const]
  refine ⟨_, rfl, a, rfl, ⟨_, SqL.of ha⟩, fun D hD => ?_⟩
  have n1 := hh.off hD
  have n2 := handOffq hh hD
  refine lc_list (K := K) (a := a) (xs := ns.map V.int) (fun i h' => ∃ ms : List Int, HandAt h' h q ∧ But h H h' ∧ h' D = some (.lst (ms.map V.int)) ∧ ms.length ≤ i ∧ ∀ m, m ∈ ms → 1 ≤ m ∧ m ≤ 1000000000)
    ⟨[], hh.same (Same.new hD), But.new hD, upd_same, Nat.le_refl 0, fun m hm => absurd hm List.not_mem_nil⟩ (fun i h' _ ⟨_, _, b, _⟩ => SqL.of (b _ _ ha na)) ?_ ?_
  · rintro i y h' hi ⟨ms, hd, bt, eD, ln, mb⟩
    obtain ⟨g, hg, rfl⟩ := nat_map hi
    have il := (List.getElem?_eq_some_iff.mp hg).1
    have gb := nb g (List.mem_of_getElem? hg)
    simp only [tSeq, tAsg, tDrop, tRet, tRetN, tIfS, tNext, tTest, tB, tNot, tAnd, tOr, tChain, tIf, tAndV, tOrV, tNotV, tOp, tUn, tCB, tCons, tNil, tVar, tC, tCall, tCallS, gName, rI, rI0, rU, rEq, rNe, tTup, tLst, gSub, rSetL, rIxL, rIxT, L2.start, List.map_cons, List.map_nil, List.length_cons, List.length_nil, Nat.reduceAdd, Nat.reduceSub, List.replicate_succ, List.replicate_zero, List.getElem?_cons_zero, List.getElem?_cons_succ, List.set_cons_zero, List.set_cons_succ, Option.some.injEq, exists_eq_left', exists_eq_left, exists_and_left, V.int.injEq, V.bl.injEq, V.ref.injEq, V.str.injEq, List.cons.injEq, and_true, true_and, List.nil_append, List.cons_append, List.append_nil, reduceCtorEq, false_and, exists_false, or_false, false_or, and_false, Int.reduceNeg, decide_eq_true_eq, Bool.not_eq_true', decide_eq_false_iff_not, and_assoc, tYes, ↓reduceIte, wipe, Bool.false_eq_true, Bool.true_eq_false, cxOf, false_implies, true_implies, implies_true, forall_const, spDraw]
    refine ⟨q, hd, by decide, by decide, fun y H1 y0 y1 hd1 b1 => ⟨rfl, ?_⟩⟩
    have e1 := b1 _ _ eD n1
    split
    · refine ⟨_, e1, by rw [List.length_map]; exact small1000 (by omega), handPut hd1 n1 n2, butAt (bt.trans b1) hD, ms ++ [g], by rw [upd_same, List.map_append]; rfl, by rw [List.length_append]; show ms.length + 1 ≤ _; omega, fun m hm => ?_⟩
      rcases List.mem_append.mp hm with hm | hm
      · exact mb m hm
      · rw [List.mem_singleton.mp hm]
        exact gb
    · exact ⟨hd1, bt.trans b1, ms, e1, by omega, mb⟩
  · rintro h' ⟨ms, hd, bt, eD, ln, mb⟩
    rw [List.length_map] at ln
    exact k h' D ms hd bt eD n1 (by omega) mb
def sp_l_few (_ : PySem.W.Frag) : Sp := fun vs H Q _ => ∃ (h q : Addr), vs = [.ref h] ∧ HandAt H h q ∧ GivesS h q 12 H Q
theorem len_l_few {vs H Q E} (h : sp_l_few K vs H Q E) : vs.length = 1 := by
  obtain ⟨_, _, rfl, _⟩ := h; rfl
theorem ok_l_few {f : Addr} {fd : FuncData} (F : Fun K "_law_few" "_law_few" s_l_few f fd) (T : Txt K mg cBadPool cBadLot) : FnOk P w K mg base CX0 4 f fd ps_l_few (sp_l_few K) := by
  obtain ⟨f_l_big, fd_l_big, F_l_big, m_l_big, b_l_big⟩ := T.d_l_big
  have G_l_big : FnOk P w K mg base CX0 3 f_l_big fd_l_big ps_l_big (sp_l_big K) := ok_l_big F_l_big T
  obtain ⟨f_l_draw, fd_l_draw, F_l_draw, m_l_draw, b_l_draw⟩ := T.d_l_draw
  have G_l_draw : FnOk P w K mg base CX0 2 f_l_draw fd_l_draw ps_l_draw (sp_l_draw K) := ok_l_draw F_l_draw T
  refine F.ok (k := 3) sc_l_few (fun vs H Q E h => len_l_few h) (fun cdv A outer s H vs Q E hr h => ?_)
  refine ⟨_, (pss_cons (ps_set (i := 1) sc_l_few.nd rfl (Or.inr rfl) (pe_lst (pa_cons (pe_op op_add pe_int (pe_call G_l_big (hr.mono (by decide)) (by rfl) m_l_big F_l_big.kp b_l_big .nil pass0 (pa_cons (pv 0) (pa_cons (pe_op op_pow pe_int pe_int) pa_nil)))) (pa_cons (pe_op op_add pe_int (pe_call G_l_draw (hr.mono (by decide)) (by rfl) m_l_draw F_l_draw.kp b_l_draw .nil pass0 (pa_cons (pv 0) (pa_cons pe_int pa_nil)))) (pa_cons (pe_op op_add pe_int (pe_call G_l_draw (hr.mono (by decide)) (by rfl) m_l_draw F_l_draw.kp b_l_draw .nil pass0 (pa_cons (pv 0) (pa_cons pe_int pa_nil)))) pa_nil)))))
      (pss_one (ps_ret (pe_callB cr_sortedE (by rfl) T.n_sorted (by decide +kernel) (pa_cons (pe_lc (own := [("_law_k", 2)]) (g := gName 2) (tt := tYes) rfl sc_l_few.nd (pi_range1 (by rfl) T.n_range (pa_cons (pe_call G_l_draw (hr.mono (by decide)) (by rfl) m_l_draw F_l_draw.kp b_l_draw .nil pass0 (pa_cons (pv 0) (pa_cons pe_int pa_nil))) pa_nil)) (blkOk_by (N := nm_l_few) (sc := defScope s_l_few) (by decide +kernel)) (fun _ _ _ _ _ => (pg_name (i := 2) sc_l_few.nd rfl (Or.inl rfl))) (fun _ _ _ _ _ => pts_nil) (fun _ _ _ _ _ => (pe_ix (ix_listK (K := K) rfl) (pv 1) (pe_call G_l_draw (hr.mono (by decide)) (by rfl) m_l_draw F_l_draw.kp b_l_draw .nil pass0 (pa_cons (pv 0) (pa_cons pe_int pa_nil))) (fun _ _ => rfl)))) pa_nil))))), ?_⟩
  obtain ⟨h, q, rfl, hh, k⟩ := h
  have e9 : (10 : Int) ^ Int.toNat 9 = 1000000000 := by decide
  simp only [tSeq, tAsg, tDrop, tRet, tRetN, tIfS, tNext, tTest, tB, tNot, tAnd, tOr, tChain, tIf, tAndV, tOrV, tNotV, tOp, tUn, tCB, tCons, tNil, tVar, tC, tCall, tCallS, gName, rI, rI0, rU, rEq, rNe, tTup, tLst, gSub, rSetL, rIxL, rIxT, L2.start, List.map_cons, List.map_nil, List.length_cons, List.length_nil, Nat.reduceAdd, Nat.reduceSub, List.replicate_succ, List.replicate_zero, List.getElem?_cons_zero, List.getElem?_cons_succ, List.set_cons_zero, List.set_cons_succ, Option.some.injEq, exists_eq_left', exists_eq_left, exists_and_left, V.int.injEq, V.bl.injEq, V.ref.injEq, V.str.injEq, List.cons.injEq, and_true, true_and, List.nil_append, List.cons_append, List.append_nil, reduceCtorEq, false_and, exists_false, or_false, false_or, and_false, Int.reduceNeg, decide_eq_true_eq, Bool.not_eq_true', decide_eq_false_iff_not, and_assoc, tYes, ↓reduceIte, wipe, Bool.false_eq_true, Bool.true_eq_false, cxOf, false_implies, true_implies, implies_true, forall_const, spDraw, e9]
  refine ⟨⟨by decide, by decide, by decide⟩, q, hh, by decide, by decide, fun a H1 a0 a1 hh1 b1 => ⟨q, hh1, by decide, by decide, fun b H2 b0 b01 hh2 b2 => ⟨q, hh2, by decide, by decide, fun c H3 c0 c1 hh3 b3 => ⟨by decide, fun p hp => ?_⟩⟩⟩⟩
  have np := hh3.off hp
  have hh4 := hh3.same (Same.new (o := HO.lst [V.int (1 + a), V.int (1 + b), V.int (1 + c)]) hp)
  have ep : upd H3 p (HO.lst [V.int (1 + a), V.int (1 + b), V.int (1 + c)]) p = some (HO.lst (([1 + a, 1 + b, 1 + c] : List Int).map V.int)) := upd_same
  have b4 := ((b1.trans b2).trans b3).trans (But.new (o := HO.lst [V.int (1 + a), V.int (1 + b), V.int (1 + c)]) hp)
  have wb : ∀ m, m ∈ ([1 + a, 1 + b, 1 + c] : List Int) → 1 ≤ m ∧ m ≤ 1000000000 := fun m hm => by
    simp only [List.mem_cons, List.not_mem_nil, or_false] at hm
    rcases hm with rfl | rfl | rfl <;> exact ⟨by omega, by omega⟩
  generalize upd H3 p (HO.lst [V.int (1 + a), V.int (1 + b), V.int (1 + c)]) = H4 at hh4 ep b4 ⊢
  refine ⟨_, rfl, h, q, 13, rfl, hh4, by decide, by decide, fun n H5 n0 n1 hh5 b5 => ⟨n, rfl, by omega, by omega, fun D hD => ?_⟩⟩
  have m1 := hh5.off hD
  have m2 := handOffq hh5 hD
  have b05 := b4.trans b5
  have fD := but_free b05 hh5 hD
  have ep5 := b5 _ _ ep np
  have s5 := Same.new (o := HO.lst []) hD
  have nDp : D ≠ p := fun z => by
    rw [z, ep5] at hD
    cases hD
  refine lc_range (lo := 0) (n := n.toNat) (fun i h' => ∃ ms : List Int, HandAt h' h q ∧ But h H h' ∧ h' p = some (HO.lst (([1 + a, 1 + b, 1 + c] : List Int).map V.int)) ∧ h' D = some (.lst (ms.map V.int)) ∧ ms.length = i ∧ ∀ m, m ∈ ms → 1 ≤ m ∧ m ≤ 1000000000)
    ⟨[], hh5.same s5, b05.trans (But.of s5), s5 _ _ ep5, upd_same, rfl, fun m hm => absurd hm List.not_mem_nil⟩ ?_ ?_
  · rintro i h' hi ⟨ms, hd, bt, ep6, eD, ln, mb⟩
    simp only [tSeq, tAsg, tDrop, tRet, tRetN, tIfS, tNext, tTest, tB, tNot, tAnd, tOr, tChain, tIf, tAndV, tOrV, tNotV, tOp, tUn, tCB, tCons, tNil, tVar, tC, tCall, tCallS, gName, rI, rI0, rU, rEq, rNe, tTup, tLst, gSub, rSetL, rIxL, rIxT, L2.start, List.map_cons, List.map_nil, List.length_cons, List.length_nil, Nat.reduceAdd, Nat.reduceSub, List.replicate_succ, List.replicate_zero, List.getElem?_cons_zero, List.getElem?_cons_succ, List.set_cons_zero, List.set_cons_succ, Option.some.injEq, exists_eq_left', exists_eq_left, exists_and_left, V.int.injEq, V.bl.injEq, V.ref.injEq, V.str.injEq, List.cons.injEq, and_true, true_and, List.nil_append, List.cons_append, List.append_nil, reduceCtorEq, false_and, exists_false, or_false, false_or, and_false, Int.reduceNeg, decide_eq_true_eq, Bool.not_eq_true', decide_eq_false_iff_not, and_assoc, tYes, ↓reduceIte, wipe, Bool.false_eq_true, Bool.true_eq_false, cxOf, false_implies, true_implies, implies_true, forall_const, spDraw]
    refine ⟨q, hd, by decide, by decide, fun j H6 j0 j1 hd6 b6 => ?_⟩
    have ep7 := b6 _ _ ep6 np
    have eD7 := b6 _ _ eD m1
    obtain ⟨j, rfl⟩ := Int.eq_ofNat_of_zero_le j0
    have jl : j < ([1 + a, 1 + b, 1 + c] : List Int).length := by show j < 3; omega
    have gb := wb _ (List.getElem_mem jl)
    generalize hg : ([1 + a, 1 + b, 1 + c] : List Int)[j] = g at gb
    refine ⟨_, SqL.of ep7, V.int g, atI_nat (by rw [List.getElem?_map, List.getElem?_eq_getElem jl, hg]; rfl), _, eD7, by rw [List.length_map]; exact small1000 (by omega), handPut hd6 m1 m2, butAt (bt.trans b6) fD, by rw [upd_ne (Ne.symm nDp)]; exact ep7, ms ++ [g], by rw [upd_same, List.map_append]; rfl, by rw [List.length_append, ln]; rfl, fun m hm => ?_⟩
    rcases List.mem_append.mp hm with hm | hm
    · exact mb m hm
    · rw [List.mem_singleton.mp hm]
      exact gb
  · rintro h' ⟨ms, hd, bt, ep6, eD, ln, mb⟩
    exact ⟨D, ms, rfl, .inl (SqL.of eD), fun ks l p1 p2 hl => k _ l ks (hd.same (Same.new hl)) (bt.trans (But.new hl)) upd_same (hd.off hl) (by rw [p1.length_eq]; omega) (fun m hm => mb m (p1.mem_iff.mp hm)) p2⟩
/-- a thing that is no coin, and none of what stood -/
def Odd (h q : Addr) (H : Hp) (Q : VK) : Prop := ∀ x H', Plain H' x → whole x 1 1000000000 = false → (∀ p, x = .ref p → H p = none) → HandAt H' h q → But h H H' → Q x H'
def sp_l_odd (_ : PySem.W.Frag) : Sp := fun vs H Q _ => ∃ h q : Addr, vs = [.ref h] ∧ HandAt H h q ∧ Odd h q H Q
theorem len_l_odd {vs H Q E} (h : sp_l_odd K vs H Q E) : vs.length = 1 := by
  obtain ⟨_, _, rfl, _⟩ := h; rfl
theorem ok_l_odd {f : Addr} {fd : FuncData} (F : Fun K "_law_odd" "_law_odd" s_l_odd f fd) (T : Txt K mg cBadPool cBadLot) : FnOk P w K mg base CX0 4 f fd ps_l_odd (sp_l_odd K) := by
  obtain ⟨f_l_big, fd_l_big, F_l_big, m_l_big, b_l_big⟩ := T.d_l_big
  have G_l_big : FnOk P w K mg base CX0 3 f_l_big fd_l_big ps_l_big (sp_l_big K) := ok_l_big F_l_big T
  obtain ⟨f_l_draw, fd_l_draw, F_l_draw, m_l_draw, b_l_draw⟩ := T.d_l_draw
  have G_l_draw : FnOk P w K mg base CX0 2 f_l_draw fd_l_draw ps_l_draw (sp_l_draw K) := ok_l_draw F_l_draw T
  refine F.ok (k := 3) sc_l_odd (fun vs H Q E h => len_l_odd h) (fun cdv A outer s H vs Q E hr h => ?_)
  refine ⟨_, (pss_cons (ps_set (i := 1) sc_l_odd.nd rfl (Or.inl rfl) (pe_call G_l_big (hr.mono (by decide)) (by rfl) m_l_big F_l_big.kp b_l_big .nil pass0 (pa_cons (pv 0) (pa_cons (pe_op op_pow pe_int pe_int) pa_nil))))
      (pss_one (ps_ret (pe_ix ix_tup (pe_tup (pa_cons pe_bl (pa_cons pe_non (pa_cons pe_str (pa_cons (pe_op op_sub (pe_un un_neg pe_int) (pv 1)) (pa_cons (pe_tup (pa_cons pe_int pa_nil)) (pa_cons (pe_op op_add (pe_op op_add (pe_op op_mul pe_int (pe_op op_pow pe_int pe_int)) pe_int) (pv 1)) (pa_cons pe_bl (pa_cons (pe_lst (pa_cons pe_int pa_nil)) (pa_cons (pe_un un_neg pe_int) (pa_cons (pe_op op_add (pe_op op_mul pe_int (pe_op op_pow pe_int pe_int)) pe_int) pa_nil))))))))))) (pe_call G_l_draw (hr.mono (by decide)) (by rfl) m_l_draw F_l_draw.kp b_l_draw .nil pass0 (pa_cons (pv 0) (pa_cons pe_int pa_nil))) (fun _ _ => rfl))))), ?_⟩
  obtain ⟨h, q, rfl, hh, k⟩ := h
  have e9 : (10 : Int) ^ Int.toNat 9 = 1000000000 := by decide
  simp only [tSeq, tAsg, tDrop, tRet, tRetN, tIfS, tNext, tTest, tB, tNot, tAnd, tOr, tChain, tIf, tAndV, tOrV, tNotV, tOp, tUn, tCB, tCons, tNil, tVar, tC, tCall, tCallS, gName, rI, rI0, rU, rEq, rNe, tTup, tLst, gSub, rSetL, rIxL, rIxT, L2.start, List.map_cons, List.map_nil, List.length_cons, List.length_nil, Nat.reduceAdd, Nat.reduceSub, List.replicate_succ, List.replicate_zero, List.getElem?_cons_zero, List.getElem?_cons_succ, List.set_cons_zero, List.set_cons_succ, Option.some.injEq, exists_eq_left', exists_eq_left, exists_and_left, V.int.injEq, V.bl.injEq, V.ref.injEq, V.str.injEq, List.cons.injEq, and_true, true_and, List.nil_append, List.cons_append, List.append_nil, reduceCtorEq, false_and, exists_false, or_false, false_or, and_false, Int.reduceNeg, decide_eq_true_eq, Bool.not_eq_true', decide_eq_false_iff_not, and_assoc, tYes, ↓reduceIte, wipe, Bool.false_eq_true, Bool.true_eq_false, cxOf, false_implies, true_implies, implies_true, forall_const, spDraw, e9]
  refine ⟨⟨by decide, by decide, by decide⟩, q, hh, by decide, by decide, fun d H1 d0 d1 hh1 b1 => ⟨by decide, fun t1 ht1 => ⟨⟨by decide, by decide, by decide⟩, cml (by decide) (by decide), by decide, fun t2 ht2 => ⟨⟨by decide, by decide, by decide⟩, cml (by decide) (by decide), by decide, fun t3 ht3 => ?_⟩⟩⟩⟩
  have s1 := Same.new (o := HO.tup [V.int 1]) ht1
  have s2 := Same.new (o := HO.lst [V.int 2]) ht2
  have e1 := s2 t1 _ (upd_same (H := H1) (o := HO.tup [V.int 1]))
  have e2 : upd (upd H1 t1 (HO.tup [V.int 1])) t2 (HO.lst [V.int 2]) t2 = some (.lst [V.int 2]) := upd_same
  have hh3 := (hh1.same s1).same s2
  have f1 : H t1 = none := but_free b1 hh1 ht1
  have f2 : H t2 = none := but_free b1 hh1 (Same.free s1 ht2)
  have m1 := hh1.off ht1
  have m2 := hh1.off (Same.free s1 ht2)
  generalize upd (upd H1 t1 (HO.tup [V.int 1])) t2 (HO.lst [V.int 2]) = H3 at s2 e1 e2 hh3 ht3 ⊢
  have s3 := Same.new (o := HO.tup [V.bl true, V.non, V.str (Str.ofString "1"), V.int (-1 - d), V.ref t1, V.int (12 * 1000000000 + 1 + d), V.bl false, V.ref t2, V.int (-1), V.int (12 * 1000000000 + 1)]) ht3
  refine ⟨q, hh3.same s3, by decide, by decide, fun j H4 j0 j1 hh4 b4 => ?_⟩
  obtain ⟨x, hx, ex⟩ := atI_in (xs := [V.bl true, V.non, V.str (Str.ofString "1"), V.int (-1 - d), V.ref t1, V.int (12 * 1000000000 + 1 + d), V.bl false, V.ref t2, V.int (-1), V.int (12 * 1000000000 + 1)]) j0 j1
  refine ⟨_, SqT.of (b4 _ _ upd_same (hh3.off ht3)), x, ex, ?_⟩
  have bt : But h H H4 := ((b1.trans (But.of s1)).trans (But.of s2)).trans ((But.of s3).trans b4)
  have x1 := b4 _ _ (s3 _ _ e1) m1
  have x2 := b4 _ _ (s3 _ _ e2) m2
  simp only [List.mem_cons, List.not_mem_nil, or_false] at hx
  rcases hx with rfl | rfl | rfl | rfl | rfl | rfl | rfl | rfl | rfl | rfl
  · exact k _ H4 True.intro rfl (fun p e => nomatch e) hh4 bt
  · exact k _ H4 True.intro rfl (fun p e => nomatch e) hh4 bt
  · exact k _ H4 True.intro rfl (fun p e => nomatch e) hh4 bt
  · exact k _ H4 True.intro (whole_no (.inl (by omega))) (fun p e => nomatch e) hh4 bt
  · exact k _ H4 (.inl ⟨_, x1⟩) rfl (fun p e => by cases e; exact f1) hh4 bt
  · exact k _ H4 True.intro (whole_no (.inr (by omega))) (fun p e => nomatch e) hh4 bt
  · exact k _ H4 True.intro rfl (fun p e => nomatch e) hh4 bt
  · exact k _ H4 (.inr (.inl ⟨_, x2⟩)) rfl (fun p e => by cases e; exact f2) hh4 bt
  · exact k _ H4 True.intro (whole_no (.inl (by decide))) (fun p e => nomatch e) hh4 bt
  · exact k _ H4 True.intro (whole_no (.inr (by decide))) (fun p e => nomatch e) hh4 bt
def sp_l_odd_coin (_ : PySem.W.Frag) : Sp := fun vs H Q _ => ∃ h q : Addr, vs = [.ref h] ∧ HandAt H h q ∧ Odd h q H Q
theorem len_l_odd_coin {vs H Q E} (h : sp_l_odd_coin K vs H Q E) : vs.length = 1 := by
  obtain ⟨_, _, rfl, _⟩ := h; rfl
theorem ok_l_odd_coin {f : Addr} {fd : FuncData} (F : Fun K "_law_odd_coin" "_law_odd_coin" s_l_odd_coin f fd) (T : Txt K mg cBadPool cBadLot) : FnOk P w K mg base CX0 5 f fd ps_l_odd_coin (sp_l_odd_coin K) := by
  obtain ⟨f_l_odd, fd_l_odd, F_l_odd, m_l_odd, b_l_odd⟩ := T.d_l_odd
  have G_l_odd : FnOk P w K mg base CX0 4 f_l_odd fd_l_odd ps_l_odd (sp_l_odd K) := ok_l_odd F_l_odd T
  obtain ⟨f_l_draw, fd_l_draw, F_l_draw, m_l_draw, b_l_draw⟩ := T.d_l_draw
  have G_l_draw : FnOk P w K mg base CX0 2 f_l_draw fd_l_draw ps_l_draw (sp_l_draw K) := ok_l_draw F_l_draw T
  refine F.ok (k := 4) sc_l_odd_coin (fun vs H Q E h => len_l_odd_coin h) (fun cdv A outer s H vs Q E hr h => ?_)
  refine ⟨_, (pss_cons (ps_if (pt_cmpR op_gt (pe_call G_l_draw (hr.mono (by decide)) (by rfl) m_l_draw F_l_draw.kp b_l_draw .nil pass0 (pa_cons (pv 0) (pa_cons pe_int pa_nil))) pe_int (nomark _)) (pss_one (ps_ret (pe_ix ix_tup (pe_tup (pa_cons pe_int (pa_cons (pe_op op_add (pe_op op_pow pe_int pe_int) pe_int) pa_nil))) (pe_call G_l_draw (hr.mono (by decide)) (by rfl) m_l_draw F_l_draw.kp b_l_draw .nil pass0 (pa_cons (pv 0) (pa_cons pe_int pa_nil))) (fun _ _ => rfl)))) pss_nil)
      (pss_one (ps_ret (pe_call G_l_odd (hr.mono (by decide)) (by rfl) m_l_odd F_l_odd.kp b_l_odd .nil pass0 (pa_cons (pv 0) pa_nil))))), ?_⟩
  obtain ⟨h, q, rfl, hh, k⟩ := h
  have e9 : (10 : Int) ^ Int.toNat 9 = 1000000000 := by decide
  simp only [tSeq, tAsg, tDrop, tRet, tRetN, tIfS, tNext, tTest, tB, tNot, tAnd, tOr, tChain, tIf, tAndV, tOrV, tNotV, tOp, tUn, tCB, tCons, tNil, tVar, tC, tCall, tCallS, gName, rI, rI0, rU, rEq, rNe, tTup, tLst, gSub, rSetL, rIxL, rIxT, L2.start, List.map_cons, List.map_nil, List.length_cons, List.length_nil, Nat.reduceAdd, Nat.reduceSub, List.replicate_succ, List.replicate_zero, List.getElem?_cons_zero, List.getElem?_cons_succ, List.set_cons_zero, List.set_cons_succ, Option.some.injEq, exists_eq_left', exists_eq_left, exists_and_left, V.int.injEq, V.bl.injEq, V.ref.injEq, V.str.injEq, List.cons.injEq, and_true, true_and, List.nil_append, List.cons_append, List.append_nil, reduceCtorEq, false_and, exists_false, or_false, false_or, and_false, Int.reduceNeg, decide_eq_true_eq, Bool.not_eq_true', decide_eq_false_iff_not, and_assoc, tYes, ↓reduceIte, wipe, Bool.false_eq_true, Bool.true_eq_false, cxOf, false_implies, true_implies, implies_true, forall_const, spDraw, e9]
  refine ⟨q, hh, by decide, by decide, fun d H1 d0 d1 hh1 b1 => ?_⟩
  split
  · refine ⟨⟨by decide, by decide, by decide⟩, by decide, fun t ht => ⟨q, hh1.same (Same.new ht), by decide, by decide, fun j H2 j0 j1 hh2 b2 => ?_⟩⟩
    obtain ⟨x, hx, ex⟩ := atI_in (xs := [V.int 0, V.int (1000000000 + 1)]) j0 j1
    refine ⟨_, SqT.of (b2 _ _ upd_same (hh1.off ht)), x, ex, ?_⟩
    have bt : But h H H2 := (b1.trans (But.new ht)).trans b2
    simp only [List.mem_cons, List.not_mem_nil, or_false] at hx
    rcases hx with rfl | rfl
    · exact k _ H2 True.intro (whole_no (.inl (by decide))) (fun p e => nomatch e) hh2 bt
    · exact k _ H2 True.intro (whole_no (.inr (by decide))) (fun p e => nomatch e) hh2 bt
  · exact ⟨h, q, rfl, hh1, fun x H2 p1 w1 f1 hh2 b2 => k x H2 p1 w1 (fun p e => by
      have z := f1 p e
      exact but_free b1 hh1 z) hh2 (b1.trans b2)⟩
end
end My
set_option Elab.async false
set_option linter.all false
set_option maxRecDepth 100000
set_option maxHeartbeats 4000000
namespace My
open PySem PySem.Spec PyProof.Rows L2 Gen
section
variable {P : Program} {w : World} {K : PySem.W.Frag} {mg : Str → Option Value} {base : Heap} { cBadPool cBadLot : Addr}
/-- the first thing that is no coin -/
def BadAt (H : Hp) (x : V) (a : Addr) (xs : List V) (i : Nat) (y : V) : Prop := x = .ref a ∧ Row H a xs ∧ xs.length ≤ 12 ∧ (∀ j z, j < i → xs[j]? = some z → whole z 1 1000000000 = true) ∧ xs[i]? = some y ∧ whole y 1 1000000000 = false
theorem lk_place {x y : V} : List.lookup ("place" : Str) [(("what" : Str), x), (("place" : Str), y)] = some y := by
  have e : (("place" : Str) == ("what" : Str)) = false := by decide
  simp [List.lookup, e]
theorem lk_what {x y : V} : List.lookup ("what" : Str) [(("what" : Str), x), (("place" : Str), y)] = some x := by simp [List.lookup]
theorem bad_few {H : Hp} {x : V} {a : Addr} {xs : List V} {i : Nat} {y : V} (b : BadAt H x a xs i y) : FewRow H x := ⟨a, xs, b.1, b.2.1, b.2.2.1⟩
theorem ok_few {H : Hp} {x : V} {a : Addr} {ns : List Int} (b : PoolOk H x a ns) : FewRow H x := ⟨a, _, b.1, b.2.1, by rw [List.length_map]; exact b.2.2.1⟩
theorem bad_ok {H : Hp} {x : V} {a b : Addr} {xs : List V} {i : Nat} {y : V} {ns : List Int} (h : BadAt H x a xs i y) (o : PoolOk H x b ns) : False := by
  obtain ⟨rfl, r, _, _, e, wy⟩ := h
  obtain ⟨e1, r2, _, nb⟩ := o
  cases e1
  rw [Row.one r r2] at e
  obtain ⟨c, hc, rfl⟩ := nat_map e
  have cb := nb c (List.mem_of_getElem? hc)
  rw [whole_int cb.1 cb.2] at wy
  cases wy
theorem bad_one {H : Hp} {x : V} {a b : Addr} {xs zs : List V} {i j : Nat} {y z : V} (h : BadAt H x a xs i y) (o : BadAt H x b zs j z) : i = j := by
  obtain ⟨rfl, r, _, f1, e, wy⟩ := h
  obtain ⟨e1, r2, _, f2, e2, wz⟩ := o
  cases e1
  rw [Row.one r r2] at e f1
  rcases Nat.lt_trichotomy i j with g | g | g
  · rw [f2 i y g e] at wy
    cases wy
  · exact g
  · rw [f1 j z g e2] at wz
    cases wz
theorem int_inj : ∀ {ns ms : List Int}, ns.map V.int = ms.map V.int → ns = ms
  | [], [], _ => rfl
  | [], _ :: _, h => by cases h
  | _ :: _, [], h => by cases h
  | n :: ns, m :: ms, h => by
    rw [List.map_cons, List.map_cons] at h
    injection h with h1 h2
    injection h1 with h3
    rw [h3, int_inj h2]
theorem row_arg {H : Hp} {a : Addr} {ns : List Int} (hr : Row H a (ns.map V.int)) : Arg H (.ref a) := by
  refine ⟨?_, fun b xs e r y hy => ?_⟩
  · rcases hr with h | h
    · exact .inl ⟨_, h⟩
    · exact .inr (.inl ⟨_, h⟩)
  · cases e
    rw [← Row.one hr r] at hy
    obtain ⟨n, _, rfl⟩ := List.mem_map.mp hy
    exact True.intro
theorem ok_no {cB : Addr} {H : Hp} {x : V} {a : Addr} {ns : List Int} {E : XK} (o : PoolOk H x a ns) : PoolBad cB x H E := ⟨fun n => absurd (ok_few o) n, fun a xs i y e1 e2 e3 e4 e5 e6 => (bad_ok ⟨e1, e2, e3, e4, e5, e6⟩ o).elim⟩
theorem ok_one {H : Hp} {x : V} {a b : Addr} {ns ms : List Int} (o : PoolOk H x a ns) (o2 : PoolOk H x b ms) : ms = ns := by
  obtain ⟨rfl, r, _⟩ := o
  obtain ⟨e, r2, _⟩ := o2
  cases e
  exact int_inj (Row.one r2 r)
theorem ok_arg {H : Hp} {x : V} {a : Addr} {ns : List Int} (o : PoolOk H x a ns) : Arg H x := by
  obtain ⟨rfl, r, _⟩ := o
  exact row_arg r
theorem ok_same {H H' : Hp} {x : V} {a : Addr} {ns : List Int} (o : PoolOk H x a ns) (s : Same H H') : PoolOk H' x a ns := ⟨o.1, o.2.1.same s, o.2.2⟩
theorem flat_ints (ns : List Int) : (ns.map V.int).all flatV = true := by
  rw [List.all_eq_true]
  intro x hx
  obtain ⟨n, _, rfl⟩ := List.mem_map.mp hx
  rfl
theorem inV_ints (g : Int) (ns : List Int) : inV (.int g) (ns.map V.int) = decide (g ∈ ns) := by
  rw [Bool.eq_iff_iff]
  simp only [inV, List.any_map, List.any_eq_true, Function.comp_apply, decide_eq_true_eq]
  constructor
  · rintro ⟨x, hx, e⟩
    have : x = g := by simpa [eqV] using e
    exact this ▸ hx
  · exact fun h => ⟨g, h, by simp [eqV]⟩
theorem pb_ok {cB : Addr} {H : Hp} {x : V} {a : Addr} {ns : List Int} {E : XK} (o : PoolOk H x a ns) : PoolBad cB x H E := ⟨fun n => absurd (ok_few o) n, fun b xs i y e1 e2 e3 e4 e5 e6 => (bad_ok ⟨e1, e2, e3, e4, e5, e6⟩ o).elim⟩
def sp_l_due_rest (_ : PySem.W.Frag) : Sp := fun vs H Q _ => ∃ (a b : Addr) (ns ms : List Int), vs = [.ref a, .ref b] ∧ H a = some (.lst (ns.map V.int)) ∧ H b = some (.lst (ms.map V.int)) ∧ ns.length ≤ 12 ∧
  (Wi ns ms → ∀ (H' : Hp) (c : Addr) (zs : List Int), Same H H' → H' c = some (.tup (zs.map V.int)) → (∀ x, zs.count x = ns.count x - ms.count x) → zs.Pairwise (· ≤ ·) → Q (.ref c) H') ∧
  (¬ Wi ns ms → ∀ H', Same H H' → Q .non H')
theorem len_l_due_rest {vs H Q E} (h : sp_l_due_rest K vs H Q E) : vs.length = 2 := by
  obtain ⟨_, _, _, _, rfl, _⟩ := h; rfl
theorem ok_l_due_rest {f : Addr} {fd : FuncData} (F : Fun K "_law_due_rest" "_law_due_rest" s_l_due_rest f fd) (T : Txt K mg cBadPool cBadLot) : FnOk P w K mg base CX0 1 f fd ps_l_due_rest (sp_l_due_rest K) := by
  refine F.ok (k := 0) sc_l_due_rest (fun vs H Q E h => len_l_due_rest h) (fun cdv A outer s H vs Q E hr h => ?_)
  refine ⟨_, (pss_cons (ps_set (i := 2) sc_l_due_rest.nd rfl (Or.inl rfl) (pe_callTy call_list_of (by rfl) T.n_list (by decide +kernel) (pa_cons (pv 0) pa_nil)))
      (pss_cons (ps_for PassesOwn.never rfl (pi_list (pv 1)) (pg_name (i := 3) sc_l_due_rest.nd rfl (Or.inl rfl))
      (pss_cons (ps_if (pt_cmpR op_notIn_seq (pv 3) (pv 2) (by rfl)) (pss_one (ps_ret pe_non)) pss_nil)
      (pss_one (ps_expr (pe_bm PySem.F.plainAttrs_list PySem.F.slot_list_remove PySem.F.type_list_remove mt_remove (pv 2) (pa_cons (pv 3) pa_nil))))))
      (pss_one (ps_ret (pe_callTy call_tuple_of (by rfl) T.n_tuple (by decide +kernel) (pa_cons (pe_callB cr_sortedE (by rfl) T.n_sorted (by decide +kernel) (pa_cons (pv 2) pa_nil)) pa_nil)))))), ?_⟩
  obtain ⟨a, b, ns, ms, rfl, ha, hb, hl, k1, k2⟩ := h
  simp only [tSeq, tAsg, tDrop, tRet, tRetN, tIfS, tNext, tTest, tB, tNot, tAnd, tOr, tChain, tIf, tAndV, tOrV, tNotV, tOp, tUn, tCB, tCons, tNil, tVar, tC, tCall, tCallS, gName, rI, rI0, rU, rEq, rNe, tTup, tLst, gSub, rSetL, rIxL, rIxT, L2.start, List.map_cons, List.map_nil, List.length_cons, List.length_nil, Nat.reduceAdd, Nat.reduceSub, List.replicate_succ, List.replicate_zero, List.getElem?_cons_zero, List.getElem?_cons_succ, List.set_cons_zero, List.set_cons_succ, Option.some.injEq, exists_eq_left', exists_eq_left, exists_and_left, V.int.injEq, V.bl.injEq, V.ref.injEq, V.str.injEq, List.cons.injEq, and_true, true_and, List.nil_append, List.cons_append, List.append_nil, reduceCtorEq, false_and, exists_false, or_false, false_or, and_false, Int.reduceNeg, decide_eq_true_eq, Bool.not_eq_true', decide_eq_false_iff_not, and_assoc, tYes, ↓reduceIte, wipe, Bool.false_eq_true, Bool.true_eq_false, cxOf, false_implies, true_implies, implies_true, forall_const]
  refine ⟨_, .inl (SqL.of ha), fun l hl0 => ⟨_, rfl, b, rfl, ⟨_, SqL.of ((Same.new hl0) _ _ hb)⟩, for_list (K := K) (a := b) (xs := ms.map V.int) (fun i z h' => ∃ (v : Option V) (cs : List Int), z = [some (.ref a), some (.ref b), some (.ref l), v] ∧ (∀ (c : Addr) (o : HO), H c = some o → h' c = some o) ∧ h' l = some (.lst (cs.map V.int)) ∧ (Wi ns ms ↔ Wi cs (ms.drop i)) ∧ rst cs (ms.drop i) = rst ns ms ∧ cs.length ≤ 12)
    ⟨none, ns, rfl, Same.new hl0, upd_same, Iff.rfl, rfl, hl⟩ (fun i z h' _ ⟨_, _, _, s, _⟩ => SqL.of (s _ _ hb)) ?_ ?_⟩⟩
  · rintro i y z h' hi ⟨v, cs, rfl, s, el, wc, rc, lc⟩
    obtain ⟨g, hg, rfl⟩ := nat_map hi
    have il := (List.getElem?_eq_some_iff.mp hg).1
    have ed : ms.drop i = g :: ms.drop (i + 1) := by
      rw [List.drop_eq_getElem_cons il, (List.getElem?_eq_some_iff.mp hg).2]
    rw [ed] at wc rc
    simp only [tSeq, tAsg, tDrop, tRet, tRetN, tIfS, tNext, tTest, tB, tNot, tAnd, tOr, tChain, tIf, tAndV, tOrV, tNotV, tOp, tUn, tCB, tCons, tNil, tVar, tC, tCall, tCallS, gName, rI, rI0, rU, rEq, rNe, tTup, tLst, gSub, rSetL, rIxL, rIxT, L2.start, List.map_cons, List.map_nil, List.length_cons, List.length_nil, Nat.reduceAdd, Nat.reduceSub, List.replicate_succ, List.replicate_zero, List.getElem?_cons_zero, List.getElem?_cons_succ, List.set_cons_zero, List.set_cons_succ, Option.some.injEq, exists_eq_left', exists_eq_left, exists_and_left, V.int.injEq, V.bl.injEq, V.ref.injEq, V.str.injEq, List.cons.injEq, and_true, true_and, List.nil_append, List.cons_append, List.append_nil, reduceCtorEq, false_and, exists_false, or_false, false_or, and_false, Int.reduceNeg, decide_eq_true_eq, Bool.not_eq_true', decide_eq_false_iff_not, and_assoc, tYes, ↓reduceIte, wipe, Bool.false_eq_true, Bool.true_eq_false, cxOf, false_implies, true_implies, implies_true, forall_const, tBM, rRemI, rIn]
    refine ⟨cs.map V.int, .inl (SqL.of el), rfl, flat_ints cs, ?_⟩
    rw [inV_ints]
    by_cases w1 : g ∈ cs
    · rw [decide_eq_true w1, if_neg (by decide)]
      obtain ⟨j, j1, j2, j3⟩ := first_at w1
      exact ⟨.inl ⟨rfl, _, SqL.of el⟩, cs, el, j, j1, j2, fun c o e => by rw [upd_ne (ne_of_none e hl0)]; exact s c o e, cs.erase g, by rw [upd_same, j3], wc.trans (wi_cons.trans ⟨fun z => z.2, fun z => ⟨w1, z⟩⟩), rc, Nat.le_trans (List.length_erase_le ..) lc⟩
    · rw [decide_eq_false w1, if_pos (by decide)]
      exact k2 (fun z => w1 (wi_cons.mp (wc.mp z)).1) h' s
  · rintro z h' ⟨v, cs, rfl, s, el, wc, rc, lc⟩
    simp only [tSeq, tAsg, tDrop, tRet, tRetN, tIfS, tNext, tTest, tB, tNot, tAnd, tOr, tChain, tIf, tAndV, tOrV, tNotV, tOp, tUn, tCB, tCons, tNil, tVar, tC, tCall, tCallS, gName, rI, rI0, rU, rEq, rNe, tTup, tLst, gSub, rSetL, rIxL, rIxT, L2.start, List.map_cons, List.map_nil, List.length_cons, List.length_nil, Nat.reduceAdd, Nat.reduceSub, List.replicate_succ, List.replicate_zero, List.getElem?_cons_zero, List.getElem?_cons_succ, List.set_cons_zero, List.set_cons_succ, Option.some.injEq, exists_eq_left', exists_eq_left, exists_and_left, V.int.injEq, V.bl.injEq, V.ref.injEq, V.str.injEq, List.cons.injEq, and_true, true_and, List.nil_append, List.cons_append, List.append_nil, reduceCtorEq, false_and, exists_false, or_false, false_or, and_false, Int.reduceNeg, decide_eq_true_eq, Bool.not_eq_true', decide_eq_false_iff_not, and_assoc, tYes, ↓reduceIte, wipe, Bool.false_eq_true, Bool.true_eq_false, cxOf, false_implies, true_implies, implies_true, forall_const, rSortedE]
    rw [List.length_map, List.drop_length] at rc wc
    refine ⟨cs, .inl (SqL.of el), fun ks p p1 p2 hp => ⟨_, .inl ⟨SqL.of upd_same, fun t ht => ?_⟩⟩⟩
    refine k1 (wc.mpr wi_nil) _ t ks (fun c o e => (Same.new ht) _ _ ((Same.new hp) _ _ (s c o e))) upd_same (fun x => ?_) p2
    rw [p1.count_eq, ← rst_count, ← rc]
    rfl
def sp_l_taken (_ : PySem.W.Frag) : Sp := fun vs H Q _ => ∃ (x y : V) (a b : Addr) (ns ms : List Int), vs = [x, y] ∧ PoolOk H x a ns ∧ PoolOk H y b ms ∧
  (Wi ns ms → ∀ (H' : Hp) (c : Addr) (zs : List Int), Same H H' → H' c = some (.tup (zs.map V.int)) → (∀ x, zs.count x = ns.count x - ms.count x) → zs.Pairwise (· ≤ ·) → zs.length ≤ 12 → (∀ n, n ∈ zs → 1 ≤ n ∧ n ≤ 1000000000) → Q (.ref c) H') ∧
  (¬ Wi ns ms → ∀ H', Same H H' → Q (.str "refused") H')
theorem len_l_taken {vs H Q E} (h : sp_l_taken K vs H Q E) : vs.length = 2 := by
  obtain ⟨_, _, _, _, _, _, rfl, _⟩ := h; rfl
theorem ok_l_taken {f : Addr} {fd : FuncData} (F : Fun K "_law_taken" "_law_taken" s_l_taken f fd) (T : Txt K mg cBadPool cBadLot) : FnOk P w K mg base CX0 5 f fd ps_l_taken (sp_l_taken K) := by
  obtain ⟨f_less_lot, fd_less_lot, F_less_lot, m_less_lot, b_less_lot⟩ := T.d_less_lot
  have G_less_lot : FnOk P w K mg base (L2.CX P w) 4 f_less_lot fd_less_lot ps_less_lot (sp_less_lot K cBadLot cBadPool) := ok_less_lot F_less_lot T
  refine F.ok (k := 4) sc_l_taken (fun vs H Q E h => len_l_taken h) (fun cdv A outer s H vs Q E hr h => ?_)
  refine ⟨_, (pss_cons (ps_set (i := 2) sc_l_taken.nd rfl (Or.inl rfl) pe_str)
      (pss_cons (ps_try_mix rfl rfl takes0 (fun W pn xe tk _ => (pss_one (ps_set (i := 2) sc_l_taken.nd rfl (Or.inl rfl) (by exact (pe_callS G_less_lot (hr.mono (by decide)) (by rfl) m_less_lot F_less_lot.kp b_less_lot (fun σ => passAt tk σ) (pa_cons (pv 0) (pa_cons (pv 1) pa_nil))))))) (HdsX.one ⟨rfl, by decide, Or.inl T.y_BadLot.gC⟩ (fun a oe cls d pn hz hf => (pss_one ps_pass)) HdsX.nil))
      (pss_one (ps_ret (pv 2))))), ?_⟩
  obtain ⟨x, y, a, b, ns, ms, rfl, o1, o2, k1, k2⟩ := h
  simp only [tSeq, tAsg, tDrop, tRet, tRetN, tIfS, tNext, tTest, tB, tNot, tAnd, tOr, tChain, tIf, tAndV, tOrV, tNotV, tOp, tUn, tCB, tCons, tNil, tVar, tC, tCall, tCallS, gName, rI, rI0, rU, rEq, rNe, tTup, tLst, gSub, rSetL, rIxL, rIxT, L2.start, List.map_cons, List.map_nil, List.length_cons, List.length_nil, Nat.reduceAdd, Nat.reduceSub, List.replicate_succ, List.replicate_zero, List.getElem?_cons_zero, List.getElem?_cons_succ, List.set_cons_zero, List.set_cons_succ, Option.some.injEq, exists_eq_left', exists_eq_left, exists_and_left, V.int.injEq, V.bl.injEq, V.ref.injEq, V.str.injEq, List.cons.injEq, and_true, true_and, List.nil_append, List.cons_append, List.append_nil, reduceCtorEq, false_and, exists_false, or_false, false_or, and_false, Int.reduceNeg, decide_eq_true_eq, Bool.not_eq_true', decide_eq_false_iff_not, and_assoc, tYes, ↓reduceIte, wipe, Bool.false_eq_true, Bool.true_eq_false, cxOf, false_implies, true_implies, implies_true, forall_const, sp_less_lot, WE, wMix, suiteOf, Ends.off, tXf, T.m_BadLot_BadLot, T.m_BadPool_BadLot]
  refine ⟨ok_arg o1, ok_arg o2, pb_ok o1, fun _ _ _ => pb_ok o2, fun c us d vs p1 p2 nw H' s a ha => ?_, fun c us d vs p1 p2 w => ?_⟩
  · rw [ok_one o1 p1, ok_one o2 p2] at nw
    exact k2 nw H' s
  · rw [ok_one o1 p1, ok_one o2 p2] at w ⊢
    exact k1 w
/-- what the suite of an error reads off it -/
def Tl (Q : VK) (H' : Hp) (d : Addr) (i : Int) (u : Str) : Prop := ∀ a, upd H' d (bad2 i u) a = none → ∃ x, upd H' d (bad2 i u) d = some (HO.xd x) ∧ ∃ x_1, List.lookup ("place" : Str) x = some x_1 ∧
  ∃ x, upd H' d (bad2 i u) d = some (HO.xd x) ∧ ∃ x_2, List.lookup ("what" : Str) x = some x_2 ∧ 2 ≤ sizeLine ∧ ∀ p, upd H' d (bad2 i u) p = none → Q (.ref p) (upd (upd H' d (bad2 i u)) p (HO.tup [x_1, x_2]))
theorem tl_of {Q : VK} {H H' : Hp} {d : Addr} {i : Int} {u : Str} (s : Same H H') (hd : H' d = none) (k : ∀ H' p, Same H H' → H' p = some (.tup [.int i, .str u]) → Q (.ref p) H') : Tl Q H' d i u :=
  fun a _ => ⟨_, upd_same, _, lk_place, _, upd_same, _, lk_what, by decide, fun p hp => k _ p (s.trans ((Same.new hd).trans (Same.new hp))) upd_same⟩
def sp_l_refused (_ : PySem.W.Frag) : Sp := fun vs H Q _ => ∃ (x y : V) (t : Int), vs = [x, y, .int t] ∧ 0 ≤ t ∧ t < 3 ∧ Arg H x ∧ Arg H y ∧
  ((¬ FewRow H x ∧ ∀ H' p, Same H H' → H' p = some (.tup [.int 0, .str "many"]) → Q (.ref p) H') ∨
    (∃ a xs i z, BadAt H x a xs i z ∧ ∀ H' p, Same H H' → H' p = some (.tup [.int (i : Nat), .str "coin"]) → Q (.ref p) H') ∨
    (∃ a ns, PoolOk H x a ns ∧ ¬ FewRow H y ∧ ∀ H' p, Same H H' → H' p = some (.tup [.int 0, .str "many"]) → Q (.ref p) H') ∨
    (∃ a ns b xs i z, PoolOk H x a ns ∧ BadAt H y b xs i z ∧ ∀ H' p, Same H H' → H' p = some (.tup [.int (i : Nat), .str "coin"]) → Q (.ref p) H') ∨
    (∃ a ns b ms, PoolOk H x a ns ∧ PoolOk H y b ms ∧ t = 2 ∧ 12 < ns.length + ms.length ∧ ∀ H' p, Same H H' → H' p = some (.tup [.int 0, .str "many"]) → Q (.ref p) H') ∨
    (∃ a ns b ms, PoolOk H x a ns ∧ PoolOk H y b ms ∧ t = 1 ∧ Wi ns ms ∧ ∀ H', Same H H' → Q (.str "let") H') ∨
    (∃ a ns b ms, PoolOk H x a ns ∧ PoolOk H y b ms ∧ t = 2 ∧ ns.length + ms.length ≤ 12 ∧ ∀ H', Same H H' → Q (.str "let") H'))
theorem len_l_refused {vs H Q E} (h : sp_l_refused K vs H Q E) : vs.length = 3 := by
  obtain ⟨_, _, _, rfl, _⟩ := h; rfl
theorem ok_l_refused {f : Addr} {fd : FuncData} (F : Fun K "_law_refused" "_law_refused" s_l_refused f fd) (T : Txt K mg cBadPool cBadLot) : FnOk P w K mg base CX0 5 f fd ps_l_refused (sp_l_refused K) := by
  obtain ⟨f_has_lot, fd_has_lot, F_has_lot, m_has_lot, b_has_lot⟩ := T.d_has_lot
  have G_has_lot : FnOk P w K mg base (L2.CX P w) 4 f_has_lot fd_has_lot ps_has_lot (sp_has_lot K cBadPool) := ok_has_lot F_has_lot T
  obtain ⟨f_less_lot, fd_less_lot, F_less_lot, m_less_lot, b_less_lot⟩ := T.d_less_lot
  have G_less_lot : FnOk P w K mg base (L2.CX P w) 4 f_less_lot fd_less_lot ps_less_lot (sp_less_lot K cBadLot cBadPool) := ok_less_lot F_less_lot T
  obtain ⟨f_joined_pools, fd_joined_pools, F_joined_pools, m_joined_pools, b_joined_pools⟩ := T.d_joined_pools
  have G_joined_pools : FnOk P w K mg base (L2.CX P w) 4 f_joined_pools fd_joined_pools ps_joined_pools (sp_joined_pools K cBadPool) := ok_joined_pools F_joined_pools T
  refine F.ok (k := 4) sc_l_refused (fun vs H Q E h => len_l_refused h) (fun cdv A outer s H vs Q E hr h => ?_)
  refine ⟨_, (pss_cons (ps_set (i := 3) sc_l_refused.nd rfl (Or.inl rfl) pe_str)
      (pss_cons (ps_try_mix rfl rfl takes0 (fun W pn xe tk _ => (pss_one (ps_if (pt_cmpR op_eq (pv 2) pe_int (nomark _)) (pss_one (ps_expr (by exact (pe_callS G_has_lot (hr.mono (by decide)) (by rfl) m_has_lot F_has_lot.kp b_has_lot (fun σ => passAt tk σ) (pa_cons (pv 0) (pa_cons (pv 1) pa_nil)))))) (pss_one (ps_if (pt_cmpR op_eq (pv 2) pe_int (nomark _)) (pss_one (ps_expr (by exact (pe_callS G_less_lot (hr.mono (by decide)) (by rfl) m_less_lot F_less_lot.kp b_less_lot (fun σ => passAt tk σ) (pa_cons (pv 0) (pa_cons (pv 1) pa_nil)))))) (pss_one (ps_expr (by exact (pe_callS G_joined_pools (hr.mono (by decide)) (by rfl) m_joined_pools F_joined_pools.kp b_joined_pools (fun σ => passAt tk σ) (pa_cons (pv 0) (pa_cons (pv 1) pa_nil))))))))))) (HdsX.asn (i := 4) ⟨rfl, by decide, Or.inl T.y_BadPool.gC⟩ sc_l_refused.nd rfl rfl (fun a oe cls d pn hz hf => (pss_one (ps_set (i := 3) sc_l_refused.nd rfl (Or.inl rfl) (pe_tup (pa_cons (pe_xf T.x_BadPool T.f_BadPool_place hz hf (pv 4)) (pa_cons (pe_xf T.x_BadPool T.f_BadPool_what hz hf (pv 4)) pa_nil)))))) (HdsX.one ⟨rfl, by decide, Or.inl T.y_BadLot.gC⟩ (fun a oe cls d pn hz hf => (pss_one (ps_set (i := 3) sc_l_refused.nd rfl (Or.inl rfl) pe_str))) HdsX.nil)))
      (pss_one (ps_ret (pv 3))))), ?_⟩
  obtain ⟨x, y, t, rfl, t0, t3, hx, hy, k⟩ := h
  simp only [tSeq, tAsg, tDrop, tRet, tRetN, tIfS, tNext, tTest, tB, tNot, tAnd, tOr, tChain, tIf, tAndV, tOrV, tNotV, tOp, tUn, tCB, tCons, tNil, tVar, tC, tCall, tCallS, gName, rI, rI0, rU, rEq, rNe, tTup, tLst, gSub, rSetL, rIxL, rIxT, L2.start, List.map_cons, List.map_nil, List.length_cons, List.length_nil, Nat.reduceAdd, Nat.reduceSub, List.replicate_succ, List.replicate_zero, List.getElem?_cons_zero, List.getElem?_cons_succ, List.set_cons_zero, List.set_cons_succ, Option.some.injEq, exists_eq_left', exists_eq_left, exists_and_left, V.int.injEq, V.bl.injEq, V.ref.injEq, V.str.injEq, List.cons.injEq, and_true, true_and, List.nil_append, List.cons_append, List.append_nil, reduceCtorEq, false_and, exists_false, or_false, false_or, and_false, Int.reduceNeg, decide_eq_true_eq, Bool.not_eq_true', decide_eq_false_iff_not, and_assoc, tYes, ↓reduceIte, wipe, Bool.false_eq_true, Bool.true_eq_false, cxOf, false_implies, true_implies, implies_true, forall_const, sp_less_lot, sp_has_lot, sp_joined_pools, PoolBad, WE, wMix, suiteOf, Ends.off, tXf, T.m_BadLot_BadLot, T.m_BadPool_BadLot, T.m_BadLot_BadPool, T.m_BadPool_BadPool]
  have mx : ¬ FewRow H x → ∀ H' d, Same H H' → H' d = none → Tl Q H' d 0 "many" := fun n H' d s hd => by
    refine tl_of s hd ?_
    rcases k with ⟨_, k⟩ | ⟨a, xs, i, z, b, k⟩ | ⟨a, ns, o, _⟩ | ⟨a, ns, _, _, _, _, o, _⟩ | ⟨a, ns, _, _, o, _⟩ | ⟨a, ns, _, _, o, _⟩ | ⟨a, ns, _, _, o, _⟩
    · exact k
    · exact absurd (bad_few b) n
    all_goals exact absurd (ok_few o) n
  have cx : ∀ (a : Addr) (xs : List V) (i : Nat) (z : V), x = .ref a → Row H a xs → xs.length ≤ 12 → (∀ (j : Nat) (z : V), j < i → xs[j]? = some z → whole z 1 1000000000 = true) → xs[i]? = some z → whole z 1 1000000000 = false →
      ∀ H' d, Same H H' → H' d = none → Tl Q H' d i "coin" := fun a xs i z e1 e2 e3 e4 e5 e6 H' d s hd => by
    have bd : BadAt H x a xs i z := ⟨e1, e2, e3, e4, e5, e6⟩
    refine tl_of s hd ?_
    rcases k with ⟨n, k⟩ | ⟨a, xs, j, z, b, k⟩ | ⟨a, ns, o, _⟩ | ⟨a, ns, _, _, _, _, o, _⟩ | ⟨a, ns, _, _, o, _⟩ | ⟨a, ns, _, _, o, _⟩ | ⟨a, ns, _, _, o, _⟩
    · exact absurd (bad_few bd) n
    · have ij := bad_one b bd
      subst ij
      exact k
    all_goals exact (bad_ok bd o).elim
  have my : ∀ (a : Addr) (ns : List Int), PoolOk H x a ns → ¬ FewRow H y → ∀ H' d, Same H H' → H' d = none → Tl Q H' d 0 "many" := fun a ns ox n H' d s hd => by
    refine tl_of s hd ?_
    rcases k with ⟨n, k⟩ | ⟨a, xs, i, z, b, k⟩ | ⟨a, ns, o, _, k⟩ | ⟨a, ns, _, _, _, _, o, b, _⟩ | ⟨a, ns, _, _, o, o2, _⟩ | ⟨a, ns, _, _, o, o2, _⟩ | ⟨a, ns, _, _, o, o2, _⟩
    · exact absurd (ok_few ox) n
    · exact (bad_ok b ox).elim
    · exact k
    · exact absurd (bad_few b) n
    all_goals exact absurd (ok_few o2) n
  have cy : ∀ (c : Addr) (ns : List Int), PoolOk H x c ns → ∀ (a : Addr) (xs : List V) (i : Nat) (z : V), y = .ref a → Row H a xs → xs.length ≤ 12 → (∀ (j : Nat) (z : V), j < i → xs[j]? = some z → whole z 1 1000000000 = true) → xs[i]? = some z → whole z 1 1000000000 = false →
      ∀ H' d, Same H H' → H' d = none → Tl Q H' d i "coin" := fun c ns ox a xs i z e1 e2 e3 e4 e5 e6 H' d s hd => by
    have bd : BadAt H y a xs i z := ⟨e1, e2, e3, e4, e5, e6⟩
    refine tl_of s hd ?_
    rcases k with ⟨n, k⟩ | ⟨a, xs, i, z, b, k⟩ | ⟨a, ns, o, n, k⟩ | ⟨a, ns, _, _, j, _, o, b, k⟩ | ⟨a, ns, _, _, o, o2, _⟩ | ⟨a, ns, _, _, o, o2, _⟩ | ⟨a, ns, _, _, o, o2, _⟩
    · exact absurd (ok_few ox) n
    · exact (bad_ok b ox).elim
    · exact absurd (bad_few bd) n
    · have ij := bad_one b bd
      subst ij
      exact k
    all_goals exact (bad_ok bd o2).elim
  refine ⟨rfl, ?_⟩
  split
  · rename_i e0
    refine ⟨hx, hy, mx, cx, fun a ns o => ⟨my a ns o, cy a ns o⟩, fun a ns b ms o1 o2 H' s => ?_⟩
    rcases k with ⟨n, k⟩ | ⟨a, xs, i, z, b, k⟩ | ⟨a, ns, o, n, k⟩ | ⟨a, ns, _, _, j, _, o, b, k⟩ | ⟨a, ns, _, _, o, _, e, _⟩ | ⟨a, ns, _, _, o, _, e, _⟩ | ⟨a, ns, _, _, o, _, e, _⟩
    · exact absurd (ok_few o1) n
    · exact (bad_ok b o1).elim
    · exact absurd (ok_few o2) n
    · exact (bad_ok b o2).elim
    all_goals omega
  · refine ⟨rfl, ?_⟩
    split
    · rename_i e0 e1
      refine ⟨hx, hy, mx, cx, fun a ns o => ⟨my a ns o, cy a ns o⟩, fun a ns b ms o1 o2 nw H' s d hd => ?_, fun a ns b ms o1 o2 w H' c zs s _ _ _ _ _ => ?_⟩
      · rcases k with ⟨n, k⟩ | ⟨a, xs, i, z, b, k⟩ | ⟨a, ns, o, n, k⟩ | ⟨a, ns, _, _, j, _, o, b, k⟩ | ⟨a, ns, _, _, o, _, e, _⟩ | ⟨a, us, _, vs, o, o', e, wi, k⟩ | ⟨a, ns, _, _, o, _, e, _⟩
        · exact absurd (ok_few o1) n
        · exact (bad_ok b o1).elim
        · exact absurd (ok_few o2) n
        · exact (bad_ok b o2).elim
        · omega
        · rw [ok_one o o1, ok_one o' o2] at nw
          exact absurd wi nw
        · omega
      · rcases k with ⟨n, k⟩ | ⟨a, xs, i, z, b, k⟩ | ⟨a, ns, o, n, k⟩ | ⟨a, ns, _, _, j, _, o, b, k⟩ | ⟨a, ns, _, _, o, _, e, _⟩ | ⟨a, us, _, vs, o, o', e, wi, k⟩ | ⟨a, ns, _, _, o, _, e, _⟩
        · exact absurd (ok_few o1) n
        · exact (bad_ok b o1).elim
        · exact absurd (ok_few o2) n
        · exact (bad_ok b o2).elim
        · omega
        · exact k H' s
        · omega
    · rename_i e0 e1
      refine ⟨hx, hy, mx, cx, fun a ns o => ⟨my a ns o, cy a ns o⟩, fun a ns b ms o1 o2 g H' d s hd => ?_, fun a ns b ms o1 o2 g H' c zs s _ _ _ => ?_⟩
      · refine (?_ : Tl Q H' d 0 "many")
        rcases k with ⟨n, k⟩ | ⟨a, xs, i, z, b, k⟩ | ⟨a, ns, o, n, k⟩ | ⟨a, ns, _, _, j, _, o, b, k⟩ | ⟨a, us, _, vs, o, o', e, l, k⟩ | ⟨a, us, _, vs, o, o', e, wi, k⟩ | ⟨a, us, _, vs, o, o', e, l, k⟩
        · exact absurd (ok_few o1) n
        · exact (bad_ok b o1).elim
        · exact absurd (ok_few o2) n
        · exact (bad_ok b o2).elim
        · exact tl_of s hd k
        · omega
        · rw [← ok_one o o1, ← ok_one o' o2] at l
          omega
      · rcases k with ⟨n, k⟩ | ⟨a, xs, i, z, b, k⟩ | ⟨a, ns, o, n, k⟩ | ⟨a, ns, _, _, j, _, o, b, k⟩ | ⟨a, us, _, vs, o, o', e, l, k⟩ | ⟨a, us, _, vs, o, o', e, wi, k⟩ | ⟨a, us, _, vs, o, o', e, l, k⟩
        · exact absurd (ok_few o1) n
        · exact (bad_ok b o1).elim
        · exact absurd (ok_few o2) n
        · exact (bad_ok b o2).elim
        · rw [← ok_one o o1, ← ok_one o' o2] at l
          omega
        · omega
        · exact k H' s
end
end My
set_option Elab.async false
set_option linter.all false
set_option maxRecDepth 100000
set_option maxHeartbeats 4000000
namespace My
open PySem PySem.Spec PyProof.Rows L2 Gen
section
variable {P : Program} {w : World} {K : PySem.W.Frag} {mg : Str → Option Value} {base : Heap} { cBadPool cBadLot : Addr}
theorem shaped_pairL (ns ms : List Int) : SeqAt.shaped (.tuple [.list (ns.map PyData.int), .list (ms.map PyData.int)]) = true := by
  have d1 := PySem.W.depthAll_ints ns
  have d2 := PySem.W.depthAll_ints ms
  have d3 : PyData.depth (.tuple [.list (ns.map PyData.int), .list (ms.map PyData.int)]) ≤ 64 := by
    simp only [PyData.depth, PyData.depthAll]
    omega
  show (PyData.canLay0 (.tuple [.list (ns.map PyData.int), .list (ms.map PyData.int)]) && decide (PyData.depth (.tuple [.list (ns.map PyData.int), .list (ms.map PyData.int)]) ≤ 64)) = true
  rw [Bool.and_eq_true]
  refine ⟨?_, decide_eq_true d3⟩
  simp [PyData.canLay0, PyData.canLayAll0, PySem.W.canLayAll0_ints]
theorem eqv_pairL (ns ms : List Int) : PyData.eqv (.tuple [.list (ns.map PyData.int), .list (ms.map PyData.int)]) (.tuple [.list (ns.map PyData.int), .list (ms.map PyData.int)]) = true := by
  simp [PyData.eqv, PyData.eqvAll, eqv_ints]
theorem ne_pairL {H : Hp} {t u a b c d : Addr} {ns ms : List Int} {Q : VK} (ht : H t = some (.tup [.ref a, .ref b])) (hu : H u = some (.tup [.ref c, .ref d])) (ha : SqL K H a (ns.map V.int)) (hb : SqL K H b (ms.map V.int)) (hc : SqL K H c (ns.map V.int)) (hd : SqL K H d (ms.map V.int)) (q : Q (.bl false) H) : rNeD K (.ref t) (.ref u) H Q := by
  refine ⟨_, _, .tup (SqT.of ht) (.cons (.lst ha (dp_ints ns)) (.cons (.lst hb (dp_ints ms)) .nil)), .tup (SqT.of hu) (.cons (.lst hc (dp_ints ns)) (.cons (.lst hd (dp_ints ms)) .nil)), shaped_pairL ns ms, shaped_pairL ns ms, ?_⟩
  rw [eqv_pairL]
  exact q
theorem eq_pairL {H : Hp} {t u a b c d : Addr} {ns ms : List Int} {Q : VK} (ht : H t = some (.tup [.ref a, .ref b])) (hu : H u = some (.tup [.ref c, .ref d])) (ha : SqL K H a (ns.map V.int)) (hb : SqL K H b (ms.map V.int)) (hc : SqL K H c (ns.map V.int)) (hd : SqL K H d (ms.map V.int)) (q : Q (.bl true) H) : rEqD K (.ref t) (.ref u) H Q := by
  refine ⟨_, _, .tup (SqT.of ht) (.cons (.lst ha (dp_ints ns)) (.cons (.lst hb (dp_ints ms)) .nil)), .tup (SqT.of hu) (.cons (.lst hc (dp_ints ns)) (.cons (.lst hd (dp_ints ms)) .nil)), shaped_pairL ns ms, shaped_pairL ns ms, ?_⟩
  rw [eqv_pairL]
  exact q
theorem eq_strD {H : Hp} {x : Str} {Q : VK} (sx : SeqAt.shaped (.str x) = true) (q : Q (.bl true) H) : rEqD K (.str x) (.str x) H Q := by
  refine ⟨_, _, .str x, .str x, sx, sx, ?_⟩
  rw [show PyData.eqv (.str x) (.str x) = true by simp [PyData.eqv]]
  exact q
def sp_l_asked (_ : PySem.W.Frag) : Sp := fun vs H Q _ => ∃ (h q a b : Addr) (ns ms : List Int), vs = [.ref h, .ref a, .ref b] ∧ HandAt H h q ∧ H a = some (.lst (ns.map V.int)) ∧ a ≠ h ∧ ns.length ≤ 12 ∧ (∀ m, m ∈ ns → 1 ≤ m ∧ m ≤ 1000000000) ∧ ns.Pairwise (· ≤ ·) ∧
  H b = some (.lst (ms.map V.int)) ∧ b ≠ h ∧ ms.length ≤ 12 ∧ (∀ m, m ∈ ms → 1 ≤ m ∧ m ≤ 1000000000) ∧ ∀ H', HandAt H' h q → But h H H' → Q (.bl true) H'
theorem len_l_asked {vs H Q E} (h : sp_l_asked K vs H Q E) : vs.length = 3 := by
  obtain ⟨_, _, _, _, _, _, rfl, _⟩ := h; rfl
theorem ok_l_asked {f : Addr} {fd : FuncData} (F : Fun K "_law_asked" "_law_asked" s_l_asked f fd) (T : Txt K mg cBadPool cBadLot) : FnOk P w K mg base CX0 6 f fd ps_l_asked (sp_l_asked K) := by
  obtain ⟨f_l_turned, fd_l_turned, F_l_turned, m_l_turned, b_l_turned⟩ := T.d_l_turned
  have G_l_turned : FnOk P w K mg base CX0 3 f_l_turned fd_l_turned ps_l_turned (sp_l_turned K) := ok_l_turned F_l_turned T
  obtain ⟨f_l_due_rest, fd_l_due_rest, F_l_due_rest, m_l_due_rest, b_l_due_rest⟩ := T.d_l_due_rest
  have G_l_due_rest : FnOk P w K mg base CX0 1 f_l_due_rest fd_l_due_rest ps_l_due_rest (sp_l_due_rest K) := ok_l_due_rest F_l_due_rest T
  obtain ⟨f_has_lot, fd_has_lot, F_has_lot, m_has_lot, b_has_lot⟩ := T.d_has_lot
  have G_has_lot : FnOk P w K mg base (L2.CX P w) 4 f_has_lot fd_has_lot ps_has_lot (sp_has_lot K cBadPool) := ok_has_lot F_has_lot T
  obtain ⟨f_l_taken, fd_l_taken, F_l_taken, m_l_taken, b_l_taken⟩ := T.d_l_taken
  have G_l_taken : FnOk P w K mg base CX0 5 f_l_taken fd_l_taken ps_l_taken (sp_l_taken K) := ok_l_taken F_l_taken T
  obtain ⟨f_joined_pools, fd_joined_pools, F_joined_pools, m_joined_pools, b_joined_pools⟩ := T.d_joined_pools
  have G_joined_pools : FnOk P w K mg base (L2.CX P w) 4 f_joined_pools fd_joined_pools ps_joined_pools (sp_joined_pools K cBadPool) := ok_joined_pools F_joined_pools T
  obtain ⟨f_l_lot_like, fd_l_lot_like, F_l_lot_like, m_l_lot_like, b_l_lot_like⟩ := T.d_l_lot_like
  have G_l_lot_like : FnOk P w K mg base CX0 2 f_l_lot_like fd_l_lot_like ps_l_lot_like (sp_l_lot_like K) := ok_l_lot_like F_l_lot_like T
  refine F.ok (k := 5) sc_l_asked (fun vs H Q E h => len_l_asked h) (fun cdv A outer s H vs Q E hr h => ?_)
  refine ⟨_, (pss_cons (ps_set (i := 3) sc_l_asked.nd rfl (Or.inl rfl) (pe_call G_l_turned (hr.mono (by decide)) (by rfl) m_l_turned F_l_turned.kp b_l_turned .nil pass0 (pa_cons (pv 0) (pa_cons (pv 1) pa_nil))))
      (pss_cons (ps_set (i := 4) sc_l_asked.nd rfl (Or.inl rfl) (pe_call G_l_turned (hr.mono (by decide)) (by rfl) m_l_turned F_l_turned.kp b_l_turned .nil pass0 (pa_cons (pv 0) (pa_cons (pv 2) pa_nil))))
      (pss_cons (ps_set (i := 5) sc_l_asked.nd rfl (Or.inl rfl) (pe_tup (pa_cons (pe_callTy call_list_of (by rfl) T.n_list (by decide +kernel) (pa_cons (pv 3) pa_nil)) (pa_cons (pe_callTy call_list_of (by rfl) T.n_list (by decide +kernel) (pa_cons (pv 4) pa_nil)) pa_nil))))
      (pss_cons (ps_set (i := 6) sc_l_asked.nd rfl (Or.inl rfl) (pe_call G_l_due_rest (hr.mono (by decide)) (by rfl) m_l_due_rest F_l_due_rest.kp b_l_due_rest .nil pass0 (pa_cons (pv 1) (pa_cons (pv 2) pa_nil))))
      (pss_cons (ps_set (i := 7) sc_l_asked.nd rfl (Or.inl rfl) (pe_call G_has_lot (hr.mono (by decide)) (by rfl) m_has_lot F_has_lot.kp b_has_lot .nil passL (pa_cons (pv 3) (pa_cons (pv 4) pa_nil))))
      (pss_cons (ps_set (i := 8) sc_l_asked.nd rfl (Or.inl rfl) (pe_call G_l_taken (hr.mono (by decide)) (by rfl) m_l_taken F_l_taken.kp b_l_taken .nil pass0 (pa_cons (pv 3) (pa_cons (pv 4) pa_nil))))
      (pss_cons (ps_if (PW.pt (pw_or (pt_not (pt_val (pe_callB call_isi (by rfl) T.n_isinstance (by decide +kernel) (pa_cons (pv 7) (pa_cons (pe_bltn (v := .ty "bool") (by rfl) T.n_bool (by decide +kernel) rfl) pa_nil))))) (pw_or (pt_cmpR op_ne (pv 7) (pe_cmpR op_notN (pv 6) pe_non (nomark _)) (nomark _)) (pw_or1 (pt_cmpR (op_neD hr.units) (pe_tup (pa_cons (pe_callTy call_list_of (by rfl) T.n_list (by decide +kernel) (pa_cons (pv 3) pa_nil)) (pa_cons (pe_callTy call_list_of (by rfl) T.n_list (by decide +kernel) (pa_cons (pv 4) pa_nil)) pa_nil))) (pv 5) (nomark _)))))) (pss_one (ps_ret pe_bl)) pss_nil)
      (pss_cons (ps_if (pt_cmpR op_isN (pv 6) pe_non (nomark _)) (pss_one (ps_ret (pe_cmpR (op_eqD hr.units) (pv 8) pe_str (nomark _)))) pss_nil)
      (pss_cons (ps_if (PW.pt (pw_or (pt_not (pt_val (pe_call G_l_lot_like (hr.mono (by decide)) (by rfl) m_l_lot_like F_l_lot_like.kp b_l_lot_like .nil pass0 (pa_cons (pv 8) pa_nil)))) (pw_or1 (pt_cmpR (op_neD hr.units) (pv 8) (pv 6) (nomark _))))) (pss_one (ps_ret pe_bl)) pss_nil)
      (pss_cons (ps_set (i := 9) sc_l_asked.nd rfl (Or.inl rfl) (pe_call G_joined_pools (hr.mono (by decide)) (by rfl) m_joined_pools F_joined_pools.kp b_joined_pools .nil passL (pa_cons (pv 8) (pa_cons (pv 4) pa_nil))))
      (pss_one (ps_ret (pe_and (pe_call G_l_lot_like (hr.mono (by decide)) (by rfl) m_l_lot_like F_l_lot_like.kp b_l_lot_like .nil pass0 (pa_cons (pv 9) pa_nil)) (pe_and (pe_cmpR (op_eqD hr.units) (pe_callTy call_list_of (by rfl) T.n_list (by decide +kernel) (pa_cons (pv 9) pa_nil)) (pv 1) (nomark _)) (pe_one (pe_cmpR (op_eqD hr.units) (pe_tup (pa_cons (pe_callTy call_list_of (by rfl) T.n_list (by decide +kernel) (pa_cons (pv 3) pa_nil)) (pa_cons (pe_callTy call_list_of (by rfl) T.n_list (by decide +kernel) (pa_cons (pv 4) pa_nil)) pa_nil))) (pv 5) (nomark _))))))))))))))))), ?_⟩
  obtain ⟨h, q, a, b, ns, ms, rfl, hh, ha, na, nl, nb, ss, hb, nb', ml, mb, k⟩ := h
  simp only [tSeq, tAsg, tDrop, tRet, tRetN, tIfS, tNext, tTest, tB, tNot, tAnd, tOr, tChain, tIf, tAndV, tOrV, tNotV, tOp, tUn, tCB, tCons, tNil, tVar, tC, tCall, tCallS, gName, rI, rI0, rU, rEq, rNe, tTup, tLst, gSub, rSetL, rIxL, rIxT, L2.start, List.map_cons, List.map_nil, List.length_cons, List.length_nil, Nat.reduceAdd, Nat.reduceSub, List.replicate_succ, List.replicate_zero, List.getElem?_cons_zero, List.getElem?_cons_succ, List.set_cons_zero, List.set_cons_succ, Option.some.injEq, exists_eq_left', exists_eq_left, exists_and_left, V.int.injEq, V.bl.injEq, V.ref.injEq, V.str.injEq, List.cons.injEq, and_true, true_and, List.nil_append, List.cons_append, List.append_nil, reduceCtorEq, false_and, exists_false, or_false, false_or, and_false, Int.reduceNeg, decide_eq_true_eq, Bool.not_eq_true', decide_eq_false_iff_not, and_assoc, tYes, ↓reduceIte, wipe, Bool.false_eq_true, Bool.true_eq_false, cxOf, false_implies, true_implies, implies_true, forall_const]
  refine ⟨h, q, a, ns, rfl, hh, ha, na, nl, fun H1 G gs hh1 b1 rG nG pG => ?_⟩
  refine ⟨h, q, b, ms, rfl, hh1, b1 _ _ hb nb', nb', ml, fun H2 W ws hh2 b2 rW nW pW => ?_⟩
  have b02 := b1.trans b2
  have ha2 := b02 _ _ ha na
  have hb2 := b02 _ _ hb nb'
  have rG2 : Row H2 G (gs.map V.int) := rG.elim (fun e => .inl (b2 _ _ e nG)) fun e => .inr (b2 _ _ e nG)
  have gl : gs.length ≤ 12 := by rw [pG.length_eq]; exact nl
  have wl : ws.length ≤ 12 := by rw [pW.length_eq]; exact ml
  have gb : ∀ m, m ∈ gs → 1 ≤ m ∧ m ≤ 1000000000 := fun m hm => nb m (pG.mem_iff.mp hm)
  have wb : ∀ m, m ∈ ws → 1 ≤ m ∧ m ≤ 1000000000 := fun m hm => mb m (pW.mem_iff.mp hm)
  have oG : ∀ {Hx}, Same H2 Hx → PoolOk Hx (.ref G) G gs := fun s => ⟨rfl, rG2.same s, gl, gb⟩
  have oW : ∀ {Hx}, Same H2 Hx → PoolOk Hx (.ref W) W ws := fun s => ⟨rfl, rW.same s, wl, wb⟩
  refine ⟨G, rfl, _, rG2.sq, fun l1 hl1 => ⟨W, rfl, _, (rW.same (Same.new hl1)).sq, fun l2 hl2 => ⟨by decide, fun kt hkt => ?_⟩⟩⟩
  have e1 : upd H2 l1 (HO.lst (gs.map V.int)) l1 = some (.lst (gs.map V.int)) := upd_same
  have s2 := Same.new (o := HO.lst (ws.map V.int)) hl2
  have s3 := Same.new (o := HO.tup [V.ref l1, V.ref l2]) hkt
  have e1' := s3 _ _ (s2 _ _ e1)
  have e2' := s3 l2 _ upd_same
  have e3' : upd (upd (upd H2 l1 (HO.lst (gs.map V.int))) l2 (HO.lst (ws.map V.int))) kt (HO.tup [V.ref l1, V.ref l2]) kt = some (.tup [V.ref l1, V.ref l2]) := upd_same
  have s23 := (Same.new (o := HO.lst (gs.map V.int)) hl1).trans (s2.trans s3)
  generalize upd (upd (upd H2 l1 (HO.lst (gs.map V.int))) l2 (HO.lst (ws.map V.int))) kt (HO.tup [V.ref l1, V.ref l2]) = H3 at e1' e2' e3' s23 ⊢
  clear e1 s2 s3 hl1 hl2 hkt
  -- the same two lists again
  have again : ∀ (Hx : Hp) (R : R2) (QQ : VK), Same H3 Hx → (∀ H' t m1 m2, Same Hx H' → H' t = some (.tup [V.ref m1, V.ref m2]) → H' m1 = some (.lst (gs.map V.int)) → H' m2 = some (.lst (ws.map V.int)) → R (V.ref t) (V.ref kt) H' QQ) →
      ∃ p, V.ref G = V.ref p ∧ ∃ x, (SqL K Hx p x ∨ SqT K Hx p x) ∧ ∀ (l : Addr), Hx l = none → ∃ p, V.ref W = V.ref p ∧ ∃ x_1, (SqL K (upd Hx l (HO.lst x)) p x_1 ∨ SqT K (upd Hx l (HO.lst x)) p x_1) ∧
      ∀ (l_1 : Addr), upd Hx l (HO.lst x) l_1 = none → 2 ≤ sizeLine ∧ ∀ (p : Addr), upd (upd Hx l (HO.lst x)) l_1 (HO.lst x_1) p = none → R (V.ref p) (V.ref kt) (upd (upd (upd Hx l (HO.lst x)) l_1 (HO.lst x_1)) p (HO.tup [V.ref l, V.ref l_1])) QQ := by
    intro Hx R QQ s kk
    refine ⟨G, rfl, _, (rG2.same (s23.trans s)).sq, fun m1 hm1 => ⟨W, rfl, _, ((rW.same (s23.trans s)).same (Same.new hm1)).sq, fun m2 hm2 => ⟨by decide, fun mt hmt => ?_⟩⟩⟩
    have t2 := Same.new (o := HO.lst (ws.map V.int)) hm2
    have t3 := Same.new (o := HO.tup [V.ref m1, V.ref m2]) hmt
    exact kk _ mt m1 m2 ((Same.new (o := HO.lst (gs.map V.int)) hm1).trans (t2.trans t3)) upd_same (t3 _ _ (t2 _ _ upd_same)) (t3 _ _ upd_same)
  have eW : Wi gs ws ↔ Wi ns ms := wi_perm pG pW
  have ha3 := s23 _ _ ha2
  have fin : ∀ Hx, Same H3 Hx → Q (.bl true) Hx := fun Hx s => k Hx (hh2.same (s23.trans s)) (b02.trans (But.of (s23.trans s)))
  refine ⟨a, b, ns, ms, rfl, ha3, s23 _ _ hb2, nl, fun wi H4 c zs s4 ec cz sz => ?_, fun wi H4 s4 => ?_⟩
  · -- the lot is within
    refine ⟨V.ref G, V.ref W, rfl, ok_arg (oG (s23.trans s4)), ok_arg (oW (s23.trans s4)), pb_ok (oG (s23.trans s4)), fun _ _ _ => pb_ok (oW (s23.trans s4)), fun a1 n1 b1 m1 u1 u2 H5 s5 => ?_⟩
    rw [ok_one (oG (s23.trans s4)) u1, ok_one (oW (s23.trans s4)) u2, decide_eq_true (eW.mpr wi)]
    have s35 := s4.trans s5
    refine ⟨V.ref G, V.ref W, G, W, gs, ws, rfl, oG (s23.trans s35), oW (s23.trans s35), fun _ H6 d ys s6 ed cy sy ly yb => ?_, fun nw => absurd (eW.mpr wi) nw⟩
    have e : ys = zs := sorted_counts sy sz fun x => by rw [cy x, cz x, pG.count_eq, pW.count_eq]
    subst e
    have s36 := s35.trans s6
    have ec6 := s6 _ _ (s5 _ _ ec)
    refine isi_bool True.intro ⟨_, rfl, ?_⟩
    rw [if_neg (fun z => by cases z)]
    refine ⟨rfl, ?_⟩
    rw [if_neg (fun z => z (by simp))]
    refine again H6 (rNeD K) _ s36 fun H7 t m1 m2 s7 et e1 e2 => ne_pairL et ((s36.trans s7) _ _ e3') (SqL.of e1) (SqL.of e2) (SqL.of ((s36.trans s7) _ _ e1')) (SqL.of ((s36.trans s7) _ _ e2')) ⟨_, rfl, ?_⟩
    rw [if_neg (fun z => by cases z)]
    have s37 := s36.trans s7
    have ed7 := s7 _ _ ed
    have ec7 := s7 _ _ ec6
    rw [if_neg (fun z => by cases z)]
    refine ⟨d, ys, rfl, ed7, ly, fun n hn => (yb n hn).1, sy, fun H8 s8 => ⟨_, rfl, ?_⟩⟩
    rw [if_neg (fun z => by cases z)]
    refine ne_tupI (s8 _ _ ed7) (s8 _ _ ec7) ⟨_, rfl, ?_⟩
    rw [decide_eq_true rfl, if_neg (fun z => by cases z)]
    have s38 := s37.trans s8
    have oY : PoolOk H8 (.ref d) d ys := ⟨rfl, .inl (s8 _ _ ed7), ly, yb⟩
    have oW8 := oW (s23.trans s38)
    have ylen : ys.length + ws.length = ns.length := by
      have p1 : (ys ++ ws).Perm ns := List.perm_iff_count.mpr fun x => by
        rw [List.count_append, cz x, pW.count_eq]
        have := wi x
        omega
      rw [← List.length_append, p1.length_eq]
    refine ⟨V.ref d, V.ref W, rfl, ok_arg oY, ok_arg oW8, pb_ok oY, fun _ _ _ => pb_ok oW8, fun a1 n1 b1 m1 u1 u2 g => ?_, fun a1 n1 b1 m1 u1 u2 g H9 e zs s9 ee pz sz2 => ?_⟩
    · rw [ok_one oY u1, ok_one oW8 u2] at g
      omega
    · rw [ok_one oY u1, ok_one oW8 u2] at pz
      have ez : zs = ns := sorted_counts sz2 ss fun x => by
        rw [pz.count_eq, List.count_append, cz x, pW.count_eq]
        have := wi x
        omega
      subst ez
      have s39 := s38.trans s9
      refine ⟨e, zs, rfl, ee, nl, fun n hn => (nb n hn).1, ss, fun H10 s10 => ⟨_, rfl, ?_⟩⟩
      rw [if_pos rfl]
      have s310 := s39.trans s10
      refine ⟨e, rfl, _, .inr (SqT.of (s10 _ _ ee)), fun l4 hl4 => eq_listI (SqL.of upd_same) (SqL.of ((s310.trans (Same.new hl4)) _ _ ha3)) ⟨_, rfl, ?_⟩⟩
      rw [decide_eq_true rfl, if_pos rfl]
      exact again _ (rEqD K) _ (s310.trans (Same.new hl4)) fun H7 t m1 m2 s7 et e1 e2 => eq_pairL et (((s310.trans (Same.new hl4)).trans s7) _ _ e3') (SqL.of e1) (SqL.of e2) (SqL.of (((s310.trans (Same.new hl4)).trans s7) _ _ e1')) (SqL.of (((s310.trans (Same.new hl4)).trans s7) _ _ e2')) (fin H7 ((s310.trans (Same.new hl4)).trans s7))
  · -- the lot is not within
    refine ⟨V.ref G, V.ref W, rfl, ok_arg (oG (s23.trans s4)), ok_arg (oW (s23.trans s4)), pb_ok (oG (s23.trans s4)), fun _ _ _ => pb_ok (oW (s23.trans s4)), fun a1 n1 b1 m1 u1 u2 H5 s5 => ?_⟩
    rw [ok_one (oG (s23.trans s4)) u1, ok_one (oW (s23.trans s4)) u2, decide_eq_false (fun z => wi (eW.mp z))]
    have s35 := s4.trans s5
    refine ⟨V.ref G, V.ref W, G, W, gs, ws, rfl, oG (s23.trans s35), oW (s23.trans s35), fun w => absurd (eW.mp w) wi, fun _ H6 s6 => ?_⟩
    have s36 := s35.trans s6
    refine isi_bool True.intro ⟨_, rfl, ?_⟩
    rw [if_neg (fun z => by cases z)]
    refine ⟨rfl, ?_⟩
    rw [if_neg (fun z => z (by simp))]
    refine again H6 (rNeD K) _ s36 fun H7 t m1 m2 s7 et e1 e2 => ne_pairL et ((s36.trans s7) _ _ e3') (SqL.of e1) (SqL.of e2) (SqL.of ((s36.trans s7) _ _ e1')) (SqL.of ((s36.trans s7) _ _ e2')) ⟨_, rfl, ?_⟩
    rw [if_neg (fun z => by cases z), if_pos rfl]
    exact eq_strD (by decide +kernel) (fin H7 (s36.trans s7))
end
end My
set_option Elab.async false
set_option linter.all false
set_option maxRecDepth 100000
set_option maxHeartbeats 4000000
namespace My
open PySem PySem.Spec PyProof.Rows L2 Gen
section
variable {P : Program} {w : World} {K : PySem.W.Frag} {mg : Str → Option Value} {base : Heap} { cBadPool cBadLot : Addr}
theorem tSeq_cut {a b : TS} {D : Ends} {σ : L2.St} {H : Hp} (h : ∀ R : TS, R = b → a { D with nx := fun σ H => R D σ H } σ H) : tSeq a b D σ H := h b rfl
theorem plain_but {h q : Addr} {H H' : Hp} {x : V} (hd : HandAt H' h q) (b : But h H H') (p : Plain H x) : Plain H' x := by
  cases x with
  | ref a =>
    by_cases e : a = h
    · obtain ⟨_, _, _, _, h1, _⟩ := hd.ex
      rw [e]
      exact .inr (.inl ⟨_, h1⟩)
    · rcases p with ⟨xs, p⟩ | ⟨xs, p⟩ | ⟨xs, p⟩
      · exact .inl ⟨xs, b _ _ p e⟩
      · exact .inr (.inl ⟨xs, b _ _ p e⟩)
      · exact .inr (.inr ⟨xs, b _ _ p e⟩)
  | _ => exact p
theorem plain_row' {H : Hp} {a : Addr} {xs : List V} (r : Row H a xs) : Plain H (.ref a) := r.elim (fun h => .inl ⟨_, h⟩) fun h => .inr (.inl ⟨_, h⟩)
theorem arg_row {H : Hp} {a : Addr} {xs : List V} (r : Row H a xs) (h : ∀ y, y ∈ xs → Plain H y) : Arg H (.ref a) := ⟨plain_row' r, fun b ys e r2 y hy => by
  cases e
  rw [← Row.one r r2] at hy
  exact h y hy⟩
theorem few_row {H : Hp} {a : Addr} {xs : List V} (r : Row H a xs) (h : 12 < xs.length) : ¬ FewRow H (.ref a) := fun ⟨b, ys, e, r2, l⟩ => by
  cases e
  rw [← Row.one r r2] at l
  omega
theorem arg_no {H : Hp} {x : V} (hp : Plain H x) (n : ∀ a, x ≠ .ref a) : Arg H x ∧ ¬ FewRow H x := ⟨⟨hp, fun a _ e => absurd e (n a)⟩, fun ⟨a, _, e, _⟩ => n a e⟩
theorem arg_dk {H : Hp} {a : Addr} {kvs : List (Key × V)} (h : H a = some (.dK kvs)) : Arg H (.ref a) ∧ ¬ FewRow H (.ref a) := by
  have no : ∀ b xs, V.ref a = .ref b → ¬ Row H b xs := fun b xs e r => by
    cases e
    rcases r with r | r <;> (rw [h] at r; cases r)
  exact ⟨⟨.inr (.inr ⟨_, h⟩), fun b xs e r => absurd r (no b xs e)⟩, fun ⟨b, xs, e, r, _⟩ => no b xs e r⟩
theorem plain_upd {H : Hp} {x : V} {l : Addr} {o : HO} (hp : Plain H x) (n : x ≠ .ref l) : Plain (upd H l o) x := by
  cases x with
  | ref a =>
    have na : a ≠ l := fun z => n (by rw [z])
    rcases hp with ⟨xs, h⟩ | ⟨xs, h⟩ | ⟨xs, h⟩
    · exact .inl ⟨xs, by rw [upd_ne na]; exact h⟩
    · exact .inr (.inl ⟨xs, by rw [upd_ne na]; exact h⟩)
    · exact .inr (.inr ⟨xs, by rw [upd_ne na]; exact h⟩)
  | _ => exact hp
theorem plain_off {H : Hp} {x : V} {l : Addr} (hp : Plain H x) (f : H l = none) : x ≠ .ref l := fun e => by
  subst e
  rcases hp with ⟨xs, h⟩ | ⟨xs, h⟩ | ⟨xs, h⟩ <;> (rw [f] at h; cases h)
theorem shaped_is (n : Int) (u : Str) (h : u = "coin" ∨ u = "many") : SeqAt.shaped (.tuple [.int n, .str u]) = true := by
  rcases h with rfl | rfl <;> simp [SeqAt.shaped, PyData.canLay0, PyData.canLayAll0, PyData.depth, PyData.depthAll] <;> decide +kernel
theorem ne_is {H : Hp} {a b : Addr} {n : Int} {u : Str} {Q : VK} (ha : H a = some (.tup [.int n, .str u])) (hb : H b = some (.tup [.int n, .str u])) (h : u = "coin" ∨ u = "many") (q : Q (.bl false) H) : rNeD K (.ref a) (.ref b) H Q := by
  refine ⟨.tuple [.int n, .str u], .tuple [.int n, .str u], .tup (SqT.of ha) (.cons (.int _) (.cons (.str _) .nil)), .tup (SqT.of hb) (.cons (.int _) (.cons (.str _) .nil)), shaped_is n u h, shaped_is n u h, ?_⟩
  have e : PyData.eqv (.tuple [.int n, .str u]) (.tuple [.int n, .str u]) = true := by simp [PyData.eqv, PyData.eqvAll]
  rw [e]
  exact q
/-- coins that the law holds: a list that is not the hand -/
structure Pl (h : Addr) (H : Hp) (a : Addr) (ns : List Int) : Prop where
  at_ : H a = some (.lst (ns.map V.int))
  ne : a ≠ h
  len : ns.length ≤ 12
  bd : ∀ m, m ∈ ns → 1 ≤ m ∧ m ≤ 1000000000
theorem Pl.but {h a : Addr} {H H' : Hp} {ns : List Int} (p : Pl h H a ns) (b : But h H H') : Pl h H' a ns := ⟨b _ _ p.at_ p.ne, p.ne, p.len, p.bd⟩
theorem Pl.same {h a : Addr} {H H' : Hp} {ns : List Int} (p : Pl h H a ns) (b : Same H H') : Pl h H' a ns := p.but (But.of b)
theorem Pl.ok {h a : Addr} {H : Hp} {ns : List Int} (p : Pl h H a ns) : PoolOk H (.ref a) a ns := ⟨rfl, .inr p.at_, p.len, p.bd⟩
theorem asked_by {h q a b : Addr} {H : Hp} {ns ms : List Int} {Q : VK} {E : XK} (hd : HandAt H h q) (p : Pl h H a ns) (s : ns.Pairwise (· ≤ ·)) (r : Pl h H b ms) (k : ∀ H', HandAt H' h q → But h H H' → Q (.bl true) H') : sp_l_asked K [.ref h, .ref a, .ref b] H Q E :=
  ⟨h, q, a, b, ns, ms, rfl, hd, p.at_, p.ne, p.len, p.bd, s, r.at_, r.ne, r.len, r.bd, k⟩
def sp_law (K : PySem.W.Frag) : Sp := fun vs H Q _ => ∃ (a : Addr) (ns : List Int), vs = [.ref a] ∧ SqL K H a (ns.map V.int) ∧ ns.length ≤ 63 ∧ ∀ H', Q (.bl true) H'
theorem len_law {vs H Q E} (h : sp_law K vs H Q E) : vs.length = 1 := by
  obtain ⟨_, _, rfl, _⟩ := h; rfl
theorem ok_law {f : Addr} {fd : FuncData} (F : Fun K "law" "law" s_law f fd) (T : Txt K mg cBadPool cBadLot) : FnOk P w K mg base CX0 7 f fd ps_law (sp_law K) := by
  obtain ⟨f_l_hand, fd_l_hand, F_l_hand, m_l_hand, b_l_hand⟩ := T.d_l_hand
  have G_l_hand : FnOk P w K mg base CX0 1 f_l_hand fd_l_hand ps_l_hand (sp_l_hand K) := ok_l_hand F_l_hand T
  obtain ⟨f_l_lot_of, fd_l_lot_of, F_l_lot_of, m_l_lot_of, b_l_lot_of⟩ := T.d_l_lot_of
  have G_l_lot_of : FnOk P w K mg base CX0 3 f_l_lot_of fd_l_lot_of ps_l_lot_of (sp_l_lot_of K) := ok_l_lot_of F_l_lot_of T
  obtain ⟨f_l_great, fd_l_great, F_l_great, m_l_great, b_l_great⟩ := T.d_l_great
  have G_l_great : FnOk P w K mg base CX0 4 f_l_great fd_l_great ps_l_great (sp_l_great K) := ok_l_great F_l_great T
  obtain ⟨f_joined_pools, fd_joined_pools, F_joined_pools, m_joined_pools, b_joined_pools⟩ := T.d_joined_pools
  have G_joined_pools : FnOk P w K mg base (L2.CX P w) 4 f_joined_pools fd_joined_pools ps_joined_pools (sp_joined_pools K cBadPool) := ok_joined_pools F_joined_pools T
  obtain ⟨f_l_draw, fd_l_draw, F_l_draw, m_l_draw, b_l_draw⟩ := T.d_l_draw
  have G_l_draw : FnOk P w K mg base CX0 2 f_l_draw fd_l_draw ps_l_draw (sp_l_draw K) := ok_l_draw F_l_draw T
  obtain ⟨f_l_odd_coin, fd_l_odd_coin, F_l_odd_coin, m_l_odd_coin, b_l_odd_coin⟩ := T.d_l_odd_coin
  have G_l_odd_coin : FnOk P w K mg base CX0 5 f_l_odd_coin fd_l_odd_coin ps_l_odd_coin (sp_l_odd_coin K) := ok_l_odd_coin F_l_odd_coin T
  obtain ⟨f_l_turned, fd_l_turned, F_l_turned, m_l_turned, b_l_turned⟩ := T.d_l_turned
  have G_l_turned : FnOk P w K mg base CX0 3 f_l_turned fd_l_turned ps_l_turned (sp_l_turned K) := ok_l_turned F_l_turned T
  obtain ⟨f_l_few, fd_l_few, F_l_few, m_l_few, b_l_few⟩ := T.d_l_few
  have G_l_few : FnOk P w K mg base CX0 4 f_l_few fd_l_few ps_l_few (sp_l_few K) := ok_l_few F_l_few T
  obtain ⟨f_l_pool, fd_l_pool, F_l_pool, m_l_pool, b_l_pool⟩ := T.d_l_pool
  have G_l_pool : FnOk P w K mg base CX0 4 f_l_pool fd_l_pool ps_l_pool (sp_l_pool K) := ok_l_pool F_l_pool T
  obtain ⟨f_l_asked, fd_l_asked, F_l_asked, m_l_asked, b_l_asked⟩ := T.d_l_asked
  have G_l_asked : FnOk P w K mg base CX0 6 f_l_asked fd_l_asked ps_l_asked (sp_l_asked K) := ok_l_asked F_l_asked T
  obtain ⟨f_l_refused, fd_l_refused, F_l_refused, m_l_refused, b_l_refused⟩ := T.d_l_refused
  have G_l_refused : FnOk P w K mg base CX0 5 f_l_refused fd_l_refused ps_l_refused (sp_l_refused K) := ok_l_refused F_l_refused T
  obtain ⟨f_l_lot_like, fd_l_lot_like, F_l_lot_like, m_l_lot_like, b_l_lot_like⟩ := T.d_l_lot_like
  have G_l_lot_like : FnOk P w K mg base CX0 2 f_l_lot_like fd_l_lot_like ps_l_lot_like (sp_l_lot_like K) := ok_l_lot_like F_l_lot_like T
  obtain ⟨f_l_big, fd_l_big, F_l_big, m_l_big, b_l_big⟩ := T.d_l_big
  have G_l_big : FnOk P w K mg base CX0 3 f_l_big fd_l_big ps_l_big (sp_l_big K) := ok_l_big F_l_big T
  refine F.ok (k := 6) sc_law (fun vs H Q E h => len_law h) (fun cdv A outer s H vs Q E hr h => ?_)
  refine ⟨_, (pss_cons (ps_set (i := 1) sc_law.nd rfl (Or.inr rfl) (pe_call G_l_hand (hr.mono (by decide)) (by rfl) m_l_hand F_l_hand.kp b_l_hand .nil pass0 (pa_cons (pv 0) pa_nil)))
      (pss_cons (ps_set (i := 2) sc_law.nd rfl (Or.inl rfl) (pe_ix ix_tup (pe_tup (pa_cons (pe_call G_l_great (hr.mono (by decide)) (by rfl) m_l_great F_l_great.kp b_l_great .nil pass0 (pa_cons (pv 1) (pa_cons pe_int pa_nil))) (pa_cons (pe_call G_l_few (hr.mono (by decide)) (by rfl) m_l_few F_l_few.kp b_l_few .nil pass0 (pa_cons (pv 1) pa_nil)) (pa_cons (pe_call G_l_pool (hr.mono (by decide)) (by rfl) m_l_pool F_l_pool.kp b_l_pool .nil pass0 (pa_cons (pv 1) (pa_cons pe_int (pa_cons pe_int pa_nil)))) pa_nil)))) (pe_call G_l_draw (hr.mono (by decide)) (by rfl) m_l_draw F_l_draw.kp b_l_draw .nil pass0 (pa_cons (pv 1) (pa_cons pe_int pa_nil))) (fun _ _ => rfl)))
      (pss_cons (ps_set (i := 3) sc_law.nd rfl (Or.inl rfl) (pe_call G_l_lot_of (hr.mono (by decide)) (by rfl) m_l_lot_of F_l_lot_of.kp b_l_lot_of .nil pass0 (pa_cons (pv 1) (pa_cons (pv 2) pa_nil))))
      (pss_cons (ps_if (PW.pt (pw_or (pt_not (pt_val (pe_call G_l_asked (hr.mono (by decide)) (by rfl) m_l_asked F_l_asked.kp b_l_asked .nil pass0 (pa_cons (pv 1) (pa_cons (pv 2) (pa_cons (pv 3) pa_nil)))))) (pw_or (pt_not (pt_val (pe_call G_l_asked (hr.mono (by decide)) (by rfl) m_l_asked F_l_asked.kp b_l_asked .nil pass0 (pa_cons (pv 1) (pa_cons (pv 2) (pa_cons (pe_lst pa_nil) pa_nil)))))) (pw_or1 (pt_not (pt_val (pe_call G_l_asked (hr.mono (by decide)) (by rfl) m_l_asked F_l_asked.kp b_l_asked .nil pass0 (pa_cons (pv 1) (pa_cons (pv 2) (pa_cons (pv 2) pa_nil)))))))))) (pss_one (ps_ret pe_bl)) pss_nil)
      (pss_cons (ps_set (i := 4) sc_law.nd rfl (Or.inl rfl) (pe_callTy call_list_of (by rfl) T.n_list (by decide +kernel) (pa_cons (pv 3) pa_nil)))
      (pss_cons (ps_if (PW.pt (pw_and (pt_cmpR op_gt (pe_callB call_len_seq (by rfl) T.n_len (by decide +kernel) (pa_cons (pv 2) pa_nil)) pe_int (nomark _)) (pw_and1 (pt_cmpR op_eq (pe_call G_l_draw (hr.mono (by decide)) (by rfl) m_l_draw F_l_draw.kp b_l_draw .nil pass0 (pa_cons (pv 1) (pa_cons pe_int pa_nil))) pe_int (nomark _))))) (pss_one (ps_expr (pe_bm PySem.F.plainAttrs_list PySem.F.slot_list_append PySem.F.type_list_append mt_append (pv 4) (pa_cons (pe_ix ix_list (pv 2) (pe_call G_l_draw (hr.mono (by decide)) (by rfl) m_l_draw F_l_draw.kp b_l_draw .nil pass0 (pa_cons (pv 1) (pa_cons (pe_callB call_len_seq (by rfl) T.n_len (by decide +kernel) (pa_cons (pv 2) pa_nil)) pa_nil))) (fun _ _ => rfl)) pa_nil)))) (pss_one (ps_expr (pe_bm PySem.F.plainAttrs_list PySem.F.slot_list_append PySem.F.type_list_append mt_append (pv 4) (pa_cons (pe_op op_add pe_int (pe_call G_l_big (hr.mono (by decide)) (by rfl) m_l_big F_l_big.kp b_l_big .nil pass0 (pa_cons (pv 1) (pa_cons (pe_op op_pow pe_int pe_int) pa_nil)))) pa_nil)))))
      (pss_cons (ps_if (PW.pt (pw_and (pt_cmpR op_lt (pe_callB call_len_seq (by rfl) T.n_len (by decide +kernel) (pa_cons (pv 4) pa_nil)) pe_int (nomark _)) (pw_and1 (pt_not (pt_val (pe_call G_l_asked (hr.mono (by decide)) (by rfl) m_l_asked F_l_asked.kp b_l_asked .nil pass0 (pa_cons (pv 1) (pa_cons (pv 2) (pa_cons (pe_callB cr_sortedE (by rfl) T.n_sorted (by decide +kernel) (pa_cons (pv 4) pa_nil)) pa_nil))))))))) (pss_one (ps_ret pe_bl)) pss_nil)
      (pss_cons (ps_set (i := 5) sc_law.nd rfl (Or.inl rfl) (pe_call G_l_great (hr.mono (by decide)) (by rfl) m_l_great F_l_great.kp b_l_great .nil pass0 (pa_cons (pv 1) (pa_cons pe_int pa_nil))))
      (pss_cons (ps_if (PW.pt (pw_or (pt_not (pt_val (pe_call G_l_asked (hr.mono (by decide)) (by rfl) m_l_asked F_l_asked.kp b_l_asked .nil pass0 (pa_cons (pv 1) (pa_cons (pv 5) (pa_cons (pv 3) pa_nil)))))) (pw_or1 (pt_not (pt_val (pe_call G_l_asked (hr.mono (by decide)) (by rfl) m_l_asked F_l_asked.kp b_l_asked .nil pass0 (pa_cons (pv 1) (pa_cons (pv 2) (pa_cons (pv 3) pa_nil))))))))) (pss_one (ps_ret pe_bl)) pss_nil)
      (pss_cons (ps_if (pt_cmpR op_gt (pe_op op_add (pe_callB call_len_seq (by rfl) T.n_len (by decide +kernel) (pa_cons (pv 2) pa_nil)) (pe_callB call_len_seq (by rfl) T.n_len (by decide +kernel) (pa_cons (pv 5) pa_nil))) pe_int (nomark _)) (pss_cons (ps_if (pt_cmpR (op_neD hr.units) (pe_call G_l_refused (hr.mono (by decide)) (by rfl) m_l_refused F_l_refused.kp b_l_refused .nil pass0 (pa_cons (pv 2) (pa_cons (pv 5) (pa_cons pe_int pa_nil)))) (pe_tup (pa_cons pe_int (pa_cons pe_str pa_nil))) (nomark _)) (pss_one (ps_ret pe_bl)) pss_nil)
      (pss_one (ps_set (i := 5) sc_law.nd rfl (Or.inl rfl) (pe_slice sl_list (pv 5) po_none (po_some (pe_op op_sub pe_int (pe_callB call_len_seq (by rfl) T.n_len (by decide +kernel) (pa_cons (pv 2) pa_nil)))))))) pss_nil)
      (pss_cons (ps_set (i := 6) sc_law.nd rfl (Or.inl rfl) (pe_call G_joined_pools (hr.mono (by decide)) (by rfl) m_joined_pools F_joined_pools.kp b_joined_pools .nil passL (pa_cons (pe_call G_l_turned (hr.mono (by decide)) (by rfl) m_l_turned F_l_turned.kp b_l_turned .nil pass0 (pa_cons (pv 1) (pa_cons (pv 2) pa_nil))) (pa_cons (pe_call G_l_turned (hr.mono (by decide)) (by rfl) m_l_turned F_l_turned.kp b_l_turned .nil pass0 (pa_cons (pv 1) (pa_cons (pv 5) pa_nil))) pa_nil))))
      (pss_cons (ps_if (PW.pt (pw_or (pt_not (pt_val (pe_call G_l_lot_like (hr.mono (by decide)) (by rfl) m_l_lot_like F_l_lot_like.kp b_l_lot_like .nil pass0 (pa_cons (pv 6) pa_nil)))) (pw_or1 (pt_cmpR (op_neD hr.units) (pe_callTy call_list_of (by rfl) T.n_list (by decide +kernel) (pa_cons (pv 6) pa_nil)) (pe_callB cr_sortedE (by rfl) T.n_sorted (by decide +kernel) (pa_cons (pe_op op_cat (pv 2) (pv 5)) pa_nil)) (nomark _))))) (pss_one (ps_ret pe_bl)) pss_nil)
      (pss_cons (ps_set (i := 7) sc_law.nd rfl (Or.inl rfl) (pe_call G_l_draw (hr.mono (by decide)) (by rfl) m_l_draw F_l_draw.kp b_l_draw .nil pass0 (pa_cons (pv 1) (pa_cons pe_int pa_nil))))
      (pss_cons (ps_setLc (i := 8) (own := [("_law_k", 9)]) (g := gName 9) (tt := tYes) rfl sc_law.nd rfl rfl (sw_true rfl rfl rfl (by decide +kernel)) (pi_range1 (by rfl) T.n_range (pa_cons pe_int pa_nil)) (blkOk_by (N := nm_law) (sc := defScope s_law) (by decide +kernel)) (fun _ _ _ _ _ => (pg_name (i := 9) sc_law.nd rfl (Or.inl rfl))) (fun _ _ _ _ _ => pts_nil) (fun _ _ _ _ _ => (pe_op op_add pe_int (pe_call G_l_draw (hr.mono (by decide)) (by rfl) m_l_draw F_l_draw.kp b_l_draw .nil pass0 (pa_cons (pv 1) (pa_cons pe_int pa_nil))))))
      (pss_cons (ps_asg (pe_call G_l_odd_coin (hr.mono (by decide)) (by rfl) m_l_odd_coin F_l_odd_coin.kp b_l_odd_coin .nil pass0 (pa_cons (pv 1) pa_nil)) (pg_sub (pv 8) (pv 7) set_list))
      (pss_cons (ps_set (i := 10) sc_law.nd rfl (Or.inl rfl) (pe_call G_l_draw (hr.mono (by decide)) (by rfl) m_l_draw F_l_draw.kp b_l_draw .nil pass0 (pa_cons (pv 1) (pa_cons pe_int pa_nil))))
      (pss_cons (ps_if (PW.pt (pw_or (pt_cmpR (op_neD hr.units) (pe_call G_l_refused (hr.mono (by decide)) (by rfl) m_l_refused F_l_refused.kp b_l_refused .nil pass0 (pa_cons (pv 8) (pa_cons pe_non (pa_cons (pv 10) pa_nil)))) (pe_tup (pa_cons (pv 7) (pa_cons pe_str pa_nil))) (nomark _)) (pw_or1 (pt_cmpR (op_neD hr.units) (pe_call G_l_refused (hr.mono (by decide)) (by rfl) m_l_refused F_l_refused.kp b_l_refused .nil pass0 (pa_cons (pv 2) (pa_cons (pv 8) (pa_cons (pv 10) pa_nil)))) (pe_tup (pa_cons (pv 7) (pa_cons pe_str pa_nil))) (nomark _))))) (pss_one (ps_ret pe_bl)) pss_nil)
      (pss_cons (ps_set (i := 11) sc_law.nd rfl (Or.inl rfl) (pe_ix ix_tup (pe_tup (pa_cons pe_non (pa_cons pe_str (pa_cons pe_int pa_nil)))) (pe_call G_l_draw (hr.mono (by decide)) (by rfl) m_l_draw F_l_draw.kp b_l_draw .nil pass0 (pa_cons (pv 1) (pa_cons pe_int pa_nil))) (fun _ _ => rfl)))
      (pss_cons (ps_if (PW.pt (pw_or (pt_cmpR (op_neD hr.units) (pe_call G_l_refused (hr.mono (by decide)) (by rfl) m_l_refused F_l_refused.kp b_l_refused .nil pass0 (pa_cons (pv 11) (pa_cons (pv 8) (pa_cons (pv 10) pa_nil)))) (pe_tup (pa_cons pe_int (pa_cons pe_str pa_nil))) (nomark _)) (pw_or1 (pt_cmpR (op_neD hr.units) (pe_call G_l_refused (hr.mono (by decide)) (by rfl) m_l_refused F_l_refused.kp b_l_refused .nil pass0 (pa_cons (pv 2) (pa_cons (pe_op op_rep (pe_lst (pa_cons pe_int pa_nil)) pe_int) (pa_cons (pv 10) pa_nil)))) (pe_tup (pa_cons pe_int (pa_cons pe_str pa_nil))) (nomark _))))) (pss_one (ps_ret pe_bl)) pss_nil)
      (pss_one (ps_ret (pe_and (pe_cmpR (op_eqD hr.units) (pe_call G_l_refused (hr.mono (by decide)) (by rfl) m_l_refused F_l_refused.kp b_l_refused .nil pass0 (pa_cons (pv 2) (pa_cons (pv 2) (pa_cons pe_int pa_nil)))) pe_str (nomark _)) (pe_one (pe_cmpR (op_eqD hr.units) (pe_call G_l_refused (hr.mono (by decide)) (by rfl) m_l_refused F_l_refused.kp b_l_refused .nil pass0 (pa_cons (pv 2) (pa_cons (pe_tup pa_nil) (pa_cons pe_int pa_nil)))) pe_str (nomark _))))))))))))))))))))))))), ?_⟩
  obtain ⟨a, ns, rfl, hS, hn, k⟩ := h
  have e9 : (10 : Int) ^ Int.toNat 9 = 1000000000 := by decide
  refine tSeq_cut fun R eR => ?_
  simp only [tSeq, tAsg, tDrop, tRet, tRetN, tIfS, tNext, tTest, tB, tNot, tAnd, tOr, tChain, tIf, tAndV, tOrV, tNotV, tOp, tUn, tCB, tCons, tNil, tVar, tC, tCall, tCallS, gName, rI, rI0, rU, rEq, rNe, tTup, tLst, gSub, rSetL, rIxL, rIxT, L2.start, List.map_cons, List.map_nil, List.length_cons, List.length_nil, Nat.reduceAdd, Nat.reduceSub, List.replicate_succ, List.replicate_zero, List.getElem?_cons_zero, List.getElem?_cons_succ, List.set_cons_zero, List.set_cons_succ, Option.some.injEq, exists_eq_left', exists_eq_left, exists_and_left, V.int.injEq, V.bl.injEq, V.ref.injEq, V.str.injEq, List.cons.injEq, and_true, true_and, List.nil_append, List.cons_append, List.append_nil, reduceCtorEq, false_and, exists_false, or_false, false_or, and_false, Int.reduceNeg, decide_eq_true_eq, Bool.not_eq_true', decide_eq_false_iff_not, and_assoc, tYes, ↓reduceIte, wipe, Bool.false_eq_true, Bool.true_eq_false, cxOf, false_implies, true_implies, implies_true, forall_const, spHand]
  refine ⟨ns, hS, hn, fun h q H1 s1 hh1 => ?_⟩
  subst eR
  refine tSeq_cut fun R eR => ?_
  simp only [tSeq, tAsg, tDrop, tRet, tRetN, tIfS, tNext, tTest, tB, tNot, tAnd, tOr, tChain, tIf, tAndV, tOrV, tNotV, tOp, tUn, tCB, tCons, tNil, tVar, tC, tCall, tCallS, gName, rI, rI0, rU, rEq, rNe, tTup, tLst, gSub, rSetL, rIxL, rIxT, L2.start, List.map_cons, List.map_nil, List.length_cons, List.length_nil, Nat.reduceAdd, Nat.reduceSub, List.replicate_succ, List.replicate_zero, List.getElem?_cons_zero, List.getElem?_cons_succ, List.set_cons_zero, List.set_cons_succ, Option.some.injEq, exists_eq_left', exists_eq_left, exists_and_left, V.int.injEq, V.bl.injEq, V.ref.injEq, V.str.injEq, List.cons.injEq, and_true, true_and, List.nil_append, List.cons_append, List.append_nil, reduceCtorEq, false_and, exists_false, or_false, false_or, and_false, Int.reduceNeg, decide_eq_true_eq, Bool.not_eq_true', decide_eq_false_iff_not, and_assoc, tYes, ↓reduceIte, wipe, Bool.false_eq_true, Bool.true_eq_false, cxOf, false_implies, true_implies, implies_true, forall_const, spDraw]
  refine ⟨h, q, rfl, hh1, fun H2 A As hh2 b2 eA nA lA bA sA => ?_⟩
  have pA : Pl h H2 A As := ⟨eA, nA, lA, bA⟩
  refine ⟨h, q, rfl, hh2, fun H3 B Bs hh3 b3 eB nB lB bB sB => ?_⟩
  have pB : Pl h H3 B Bs := ⟨eB, nB, lB, bB⟩
  refine ⟨h, q, rfl, hh3, fun H4 C Cs hh4 b4 eC nC lC bC sC => ⟨by decide, fun t ht => ?_⟩⟩
  have pC : Pl h H4 C Cs := ⟨eC, nC, lC, bC⟩
  have s5 := Same.new (o := HO.tup [V.ref A, V.ref B, V.ref C]) ht
  refine ⟨q, hh4.same s5, by decide, by decide, fun j H5 j0 j1 hh5 b5 => ?_⟩
  obtain ⟨x, hx, ex⟩ := atI_in (xs := [V.ref A, V.ref B, V.ref C]) j0 j1
  refine ⟨_, SqT.of (b5 _ _ upd_same (hh4.off ht)), x, ex, ?_⟩
  have b45 := (But.of (h := h) s5).trans b5
  obtain ⟨D, cs, rfl, pD, sD⟩ : ∃ D cs, x = .ref D ∧ Pl h H5 D cs ∧ cs.Pairwise (· ≤ ·) := by
    simp only [List.mem_cons, List.not_mem_nil, or_false] at hx
    rcases hx with rfl | rfl | rfl
    · exact ⟨A, As, rfl, (((pA.but b3).but b4).but b45), sA⟩
    · exact ⟨B, Bs, rfl, ((pB.but b4).but b45), sB⟩
    · exact ⟨C, Cs, rfl, pC.but b45, sC⟩
  clear pA pB pC eA nA lA bA sA eB nB lB bB sB eC nC lC bC sC hx ex b2 b3 b4 b45 s5 b5 hh4 hh3 hh2
  -- the lot
  subst eR
  refine tSeq_cut fun R eR => ?_
  simp only [tSeq, tAsg, tDrop, tRet, tRetN, tIfS, tNext, tTest, tB, tNot, tAnd, tOr, tChain, tIf, tAndV, tOrV, tNotV, tOp, tUn, tCB, tCons, tNil, tVar, tC, tCall, tCallS, gName, rI, rI0, rU, rEq, rNe, tTup, tLst, gSub, rSetL, rIxL, rIxT, L2.start, List.map_cons, List.map_nil, List.length_cons, List.length_nil, Nat.reduceAdd, Nat.reduceSub, List.replicate_succ, List.replicate_zero, List.getElem?_cons_zero, List.getElem?_cons_succ, List.set_cons_zero, List.set_cons_succ, Option.some.injEq, exists_eq_left', exists_eq_left, exists_and_left, V.int.injEq, V.bl.injEq, V.ref.injEq, V.str.injEq, List.cons.injEq, and_true, true_and, List.nil_append, List.cons_append, List.append_nil, reduceCtorEq, false_and, exists_false, or_false, false_or, and_false, Int.reduceNeg, decide_eq_true_eq, Bool.not_eq_true', decide_eq_false_iff_not, and_assoc, tYes, ↓reduceIte, wipe, Bool.false_eq_true, Bool.true_eq_false, cxOf, false_implies, true_implies, implies_true, forall_const]
  refine ⟨h, q, D, cs, rfl, hh5, pD.at_, pD.ne, pD.len, pD.bd, fun H6 L ls hh6 b6 eL nL lL bL => ?_⟩
  have pL : Pl h H6 L ls := ⟨eL, nL, lL, bL⟩
  have pD6 := pD.but b6
  clear pD eL nL lL bL b6 hh5
  -- asked of it, of nothing, of all
  subst eR
  refine tSeq_cut fun R eR => ?_
  simp only [tSeq, tAsg, tDrop, tRet, tRetN, tIfS, tNext, tTest, tB, tNot, tAnd, tOr, tChain, tIf, tAndV, tOrV, tNotV, tOp, tUn, tCB, tCons, tNil, tVar, tC, tCall, tCallS, gName, rI, rI0, rU, rEq, rNe, tTup, tLst, gSub, rSetL, rIxL, rIxT, L2.start, List.map_cons, List.map_nil, List.length_cons, List.length_nil, Nat.reduceAdd, Nat.reduceSub, List.replicate_succ, List.replicate_zero, List.getElem?_cons_zero, List.getElem?_cons_succ, List.set_cons_zero, List.set_cons_succ, Option.some.injEq, exists_eq_left', exists_eq_left, exists_and_left, V.int.injEq, V.bl.injEq, V.ref.injEq, V.str.injEq, List.cons.injEq, and_true, true_and, List.nil_append, List.cons_append, List.append_nil, reduceCtorEq, false_and, exists_false, or_false, false_or, and_false, Int.reduceNeg, decide_eq_true_eq, Bool.not_eq_true', decide_eq_false_iff_not, and_assoc, tYes, ↓reduceIte, wipe, Bool.false_eq_true, Bool.true_eq_false, cxOf, false_implies, true_implies, implies_true, forall_const]
  refine asked_by hh6 pD6 sD pL fun H7 hh7 b7 => ⟨_, rfl, ?_⟩
  rw [if_neg (fun z => by cases z)]
  refine ⟨Nat.zero_le _, fun n hn => ?_⟩
  have pD7 := pD6.but b7
  have sn := Same.new (o := HO.lst []) hn
  refine asked_by (hh7.same sn) (pD7.same sn) sD (ms := []) ⟨upd_same, hh7.off hn, Nat.zero_le _, fun m hm => absurd hm List.not_mem_nil⟩ fun H8 hh8 b8 => ⟨_, rfl, ?_⟩
  rw [if_neg (fun z => by cases z)]
  have pD8 := (pD7.same sn).but b8
  refine asked_by hh8 pD8 sD pD8 fun H9 hh9 b9 => ⟨_, rfl, ?_⟩
  rw [if_neg (fun z => by cases z)]
  have pD9 := pD8.but b9
  have pL9 := (((pL.but b7).same sn).but b8).but b9
  clear pL pD6 pD7 pD8 hh6 hh7 hh8 b7 sn b8 b9 hn n
  -- more of it
  subst eR
  refine tSeq_cut fun R eR => ?_
  simp only [tSeq, tAsg, tDrop, tRet, tRetN, tIfS, tNext, tTest, tB, tNot, tAnd, tOr, tChain, tIf, tAndV, tOrV, tNotV, tOp, tUn, tCB, tCons, tNil, tVar, tC, tCall, tCallS, gName, rI, rI0, rU, rEq, rNe, tTup, tLst, gSub, rSetL, rIxL, rIxT, L2.start, List.map_cons, List.map_nil, List.length_cons, List.length_nil, Nat.reduceAdd, Nat.reduceSub, List.replicate_succ, List.replicate_zero, List.getElem?_cons_zero, List.getElem?_cons_succ, List.set_cons_zero, List.set_cons_succ, Option.some.injEq, exists_eq_left', exists_eq_left, exists_and_left, V.int.injEq, V.bl.injEq, V.ref.injEq, V.str.injEq, List.cons.injEq, and_true, true_and, List.nil_append, List.cons_append, List.append_nil, reduceCtorEq, false_and, exists_false, or_false, false_or, and_false, Int.reduceNeg, decide_eq_true_eq, Bool.not_eq_true', decide_eq_false_iff_not, and_assoc, tYes, ↓reduceIte, wipe, Bool.false_eq_true, Bool.true_eq_false, cxOf, false_implies, true_implies, implies_true, forall_const]
  refine ⟨_, .inl (SqL.of pL9.at_), fun M hM => ?_⟩
  have eM : upd H9 M (HO.lst (ls.map V.int)) M = some (.lst (ls.map V.int)) := upd_same
  have sM := Same.new (o := HO.lst (ls.map V.int)) hM
  have nM := hh9.off hM
  have nMq := handOffq hh9 hM
  have nMD : M ≠ D := fun z => by rw [z, pD9.at_] at hM; cases hM
  have nML : M ≠ L := fun z => by rw [z, pL9.at_] at hM; cases hM
  have hh10 := hh9.same sM
  have pD10 := pD9.same sM
  have pL10 := pL9.same sM
  generalize upd H9 M (HO.lst (ls.map V.int)) = H10 at eM hh10 pD10 pL10 ⊢
  clear pD9 pL9 hh9 sM hM
  subst eR
  refine tSeq_cut fun R eR => ?_
  simp only [tSeq, tAsg, tDrop, tRet, tRetN, tIfS, tNext, tTest, tB, tNot, tAnd, tOr, tChain, tIf, tAndV, tOrV, tNotV, tOp, tUn, tCB, tCons, tNil, tVar, tC, tCall, tCallS, gName, rI, rI0, rU, rEq, rNe, tTup, tLst, gSub, rSetL, rIxL, rIxT, L2.start, List.map_cons, List.map_nil, List.length_cons, List.length_nil, Nat.reduceAdd, Nat.reduceSub, List.replicate_succ, List.replicate_zero, List.getElem?_cons_zero, List.getElem?_cons_succ, List.set_cons_zero, List.set_cons_succ, Option.some.injEq, exists_eq_left', exists_eq_left, exists_and_left, V.int.injEq, V.bl.injEq, V.ref.injEq, V.str.injEq, List.cons.injEq, and_true, true_and, List.nil_append, List.cons_append, List.append_nil, reduceCtorEq, false_and, exists_false, or_false, false_or, and_false, Int.reduceNeg, decide_eq_true_eq, Bool.not_eq_true', decide_eq_false_iff_not, and_assoc, tYes, ↓reduceIte, wipe, Bool.false_eq_true, Bool.true_eq_false, cxOf, false_implies, true_implies, implies_true, forall_const, spDraw, e9, tBM, rAppend]
  suffices cont : ∀ (Hx : Hp) (ms : List Int), HandAt Hx h q → Pl h Hx D cs → Pl h Hx L ls → Hx M = some (.lst (ms.map V.int)) → ms.length ≤ 13 → (∀ m, m ∈ ms → 1 ≤ m ∧ m ≤ 1000000000) →
      R { nx := fun x H' => Q V.non H', rt := Q } [some (V.ref a), some (V.ref h), some (V.ref D), some (V.ref L), some (V.ref M), none, none, none, none, none, none, none] Hx by
    have put : ∀ (Hx : Hp) (g : Int), HandAt Hx h q → Pl h Hx D cs → Pl h Hx L ls → Hx M = some (.lst (ls.map V.int)) → 1 ≤ g → g ≤ 1000000000 → ∃ x, Hx M = some (HO.lst x) ∧ x.length < sizeLine ∧
        R { nx := fun x H' => Q V.non H', rt := Q } [some (V.ref a), some (V.ref h), some (V.ref D), some (V.ref L), some (V.ref M), none, none, none, none, none, none, none] (upd Hx M (HO.lst (x ++ [V.int g]))) := by
      intro Hx g hx pd pl em g1 g2
      refine ⟨_, em, by rw [List.length_map]; exact small1000 (by have := pl.len; omega), cont _ (ls ++ [g]) (handPut hx nM nMq) ⟨by rw [upd_ne (Ne.symm nMD)]; exact pd.at_, pd.ne, pd.len, pd.bd⟩ ⟨by rw [upd_ne (Ne.symm nML)]; exact pl.at_, pl.ne, pl.len, pl.bd⟩ (by rw [upd_same, List.map_append]; rfl) (by rw [List.length_append]; have := pl.len; show ls.length + 1 ≤ 13; omega) fun m hm => ?_⟩
      rcases List.mem_append.mp hm with hm | hm
      · exact pl.bd m hm
      · rw [List.mem_singleton.mp hm]
        exact ⟨g1, g2⟩
    have fresh : ∀ (Hx : Hp), HandAt Hx h q → Pl h Hx D cs → Pl h Hx L ls → Hx M = some (.lst (ls.map V.int)) → tyV K "list" (V.ref M) Hx ∧ CPow 10 9 ∧ ∃ x, HandAt Hx h x ∧ (0 : Int) < 1000000000 ∧ (1000000000 : Int) < 9223372036854775808 ∧
        ∀ (d : Int) (H' : Hp), 0 ≤ d → d < 1000000000 → HandAt H' h x → But h Hx H' → ∃ x, H' M = some (HO.lst x) ∧ x.length < sizeLine ∧
          R { nx := fun x H' => Q V.non H', rt := Q } [some (V.ref a), some (V.ref h), some (V.ref D), some (V.ref L), some (V.ref M), none, none, none, none, none, none, none] (upd H' M (HO.lst (x ++ [V.int (1 + d)]))) := fun Hx hx pd pl em =>
      ⟨.inl ⟨rfl, _, SqL.of em⟩, ⟨by decide, by decide, by decide⟩, q, hx, by decide, by decide, fun d H' d0 d1 hd bd => put H' (1 + d) hd (pd.but bd) (pl.but bd) (bd _ _ em nM) (by omega) (by omega)⟩
    refine ⟨_, .inl (SqL.of pD10.at_), ?_⟩
    split
    · refine ⟨q, hh10, by decide, by decide, fun d H' d0 d1 hd bd => ⟨rfl, ?_⟩⟩
      have em := bd _ _ eM nM
      have pd := pD10.but bd
      have pl := pL10.but bd
      split
      · rename_i g0 _
        rw [List.length_map] at g0
        refine ⟨.inl ⟨rfl, _, SqL.of em⟩, _, .inl (SqL.of pd.at_), q, hd, by rw [List.length_map]; exact g0, by rw [List.length_map]; have := pd.len; omega, fun j H'' j0 j1 hd2 bd2 => ?_⟩
        obtain ⟨j, rfl⟩ := Int.eq_ofNat_of_zero_le j0
        rw [List.length_map] at j1
        have jl : j < cs.length := by omega
        have gb := pd.bd cs[j] (List.getElem_mem jl)
        have pd2 := pd.but bd2
        exact ⟨_, SqL.of pd2.at_, _, atI_nat (by rw [List.getElem?_map, List.getElem?_eq_getElem jl]; rfl), put H'' cs[j] hd2 pd2 (pl.but bd2) (bd2 _ _ em nM) gb.1 gb.2⟩
      · exact fresh H' hd pd pl em
    · exact fresh H10 hh10 pD10 pL10 eM
  clear eM hh10 pD10 pL10 H10
  intro H10 ms hh10 pD10 pL10 eM lM bM
  subst eR
  refine tSeq_cut fun R eR => ?_
  simp only [tSeq, tAsg, tDrop, tRet, tRetN, tIfS, tNext, tTest, tB, tNot, tAnd, tOr, tChain, tIf, tAndV, tOrV, tNotV, tOp, tUn, tCB, tCons, tNil, tVar, tC, tCall, tCallS, gName, rI, rI0, rU, rEq, rNe, tTup, tLst, gSub, rSetL, rIxL, rIxT, L2.start, List.map_cons, List.map_nil, List.length_cons, List.length_nil, Nat.reduceAdd, Nat.reduceSub, List.replicate_succ, List.replicate_zero, List.getElem?_cons_zero, List.getElem?_cons_succ, List.set_cons_zero, List.set_cons_succ, Option.some.injEq, exists_eq_left', exists_eq_left, exists_and_left, V.int.injEq, V.bl.injEq, V.ref.injEq, V.str.injEq, List.cons.injEq, and_true, true_and, List.nil_append, List.cons_append, List.append_nil, reduceCtorEq, false_and, exists_false, or_false, false_or, and_false, Int.reduceNeg, decide_eq_true_eq, Bool.not_eq_true', decide_eq_false_iff_not, and_assoc, tYes, ↓reduceIte, wipe, Bool.false_eq_true, Bool.true_eq_false, cxOf, false_implies, true_implies, implies_true, forall_const]
  suffices cont : ∀ (Hx : Hp), HandAt Hx h q → Pl h Hx D cs → Pl h Hx L ls →
      R { nx := fun x H' => Q V.non H', rt := Q } [some (V.ref a), some (V.ref h), some (V.ref D), some (V.ref L), some (V.ref M), none, none, none, none, none, none, none] Hx by
    refine ⟨_, .inl (SqL.of eM), ?_⟩
    split
    · rename_i g
      rw [List.length_map] at g
      refine ⟨M, ms, rfl, .inl (SqL.of eM), fun zs p p1 p2 hp => ?_⟩
      have s := Same.new (o := HO.lst (zs.map V.int)) hp
      refine asked_by (hh10.same s) (pD10.same s) sD (ms := zs) ⟨upd_same, hh10.off hp, by rw [p1.length_eq]; omega, fun m hm => bM m (p1.mem_iff.mp hm)⟩ fun H11 hh11 b11 => ⟨_, rfl, ?_⟩
      rw [if_neg (fun z => by cases z)]
      exact cont H11 hh11 ((pD10.same s).but b11) ((pL10.same s).but b11)
    · exact cont H10 hh10 pD10 pL10
  clear eM hh10 pD10 pL10 lM bM H10
  intro H10 hh10 pD10 pL10
  -- another pool
  subst eR
  refine tSeq_cut fun R eR => ?_
  simp only [tSeq, tAsg, tDrop, tRet, tRetN, tIfS, tNext, tTest, tB, tNot, tAnd, tOr, tChain, tIf, tAndV, tOrV, tNotV, tOp, tUn, tCB, tCons, tNil, tVar, tC, tCall, tCallS, gName, rI, rI0, rU, rEq, rNe, tTup, tLst, gSub, rSetL, rIxL, rIxT, L2.start, List.map_cons, List.map_nil, List.length_cons, List.length_nil, Nat.reduceAdd, Nat.reduceSub, List.replicate_succ, List.replicate_zero, List.getElem?_cons_zero, List.getElem?_cons_succ, List.set_cons_zero, List.set_cons_succ, Option.some.injEq, exists_eq_left', exists_eq_left, exists_and_left, V.int.injEq, V.bl.injEq, V.ref.injEq, V.str.injEq, List.cons.injEq, and_true, true_and, List.nil_append, List.cons_append, List.append_nil, reduceCtorEq, false_and, exists_false, or_false, false_or, and_false, Int.reduceNeg, decide_eq_true_eq, Bool.not_eq_true', decide_eq_false_iff_not, and_assoc, tYes, ↓reduceIte, wipe, Bool.false_eq_true, Bool.true_eq_false, cxOf, false_implies, true_implies, implies_true, forall_const]
  refine ⟨h, q, rfl, hh10, fun H11 O os hh11 b11 eO nO lO bO sO => ?_⟩
  have pO : Pl h H11 O os := ⟨eO, nO, lO, bO⟩
  have pD11 := pD10.but b11
  have pL11 := pL10.but b11
  clear pD10 pL10 hh10 b11 eO nO lO bO
  subst eR
  refine tSeq_cut fun R eR => ?_
  simp only [tSeq, tAsg, tDrop, tRet, tRetN, tIfS, tNext, tTest, tB, tNot, tAnd, tOr, tChain, tIf, tAndV, tOrV, tNotV, tOp, tUn, tCB, tCons, tNil, tVar, tC, tCall, tCallS, gName, rI, rI0, rU, rEq, rNe, tTup, tLst, gSub, rSetL, rIxL, rIxT, L2.start, List.map_cons, List.map_nil, List.length_cons, List.length_nil, Nat.reduceAdd, Nat.reduceSub, List.replicate_succ, List.replicate_zero, List.getElem?_cons_zero, List.getElem?_cons_succ, List.set_cons_zero, List.set_cons_succ, Option.some.injEq, exists_eq_left', exists_eq_left, exists_and_left, V.int.injEq, V.bl.injEq, V.ref.injEq, V.str.injEq, List.cons.injEq, and_true, true_and, List.nil_append, List.cons_append, List.append_nil, reduceCtorEq, false_and, exists_false, or_false, false_or, and_false, Int.reduceNeg, decide_eq_true_eq, Bool.not_eq_true', decide_eq_false_iff_not, and_assoc, tYes, ↓reduceIte, wipe, Bool.false_eq_true, Bool.true_eq_false, cxOf, false_implies, true_implies, implies_true, forall_const]
  refine asked_by hh11 pO sO pL11 fun H12 hh12 b12 => ⟨_, rfl, ?_⟩
  rw [if_neg (fun z => by cases z)]
  refine asked_by hh12 (pD11.but b12) sD (pL11.but b12) fun H13 hh13 b13 => ⟨_, rfl, ?_⟩
  rw [if_neg (fun z => by cases z)]
  have pO13 := (pO.but b12).but b13
  have pD13 := (pD11.but b12).but b13
  clear pO pD11 pL11 hh11 hh12 b12 b13
  subst eR
  refine tSeq_cut fun R eR => ?_
  simp only [tSeq, tAsg, tDrop, tRet, tRetN, tIfS, tNext, tTest, tB, tNot, tAnd, tOr, tChain, tIf, tAndV, tOrV, tNotV, tOp, tUn, tCB, tCons, tNil, tVar, tC, tCall, tCallS, gName, rI, rI0, rU, rEq, rNe, tTup, tLst, gSub, rSetL, rIxL, rIxT, L2.start, List.map_cons, List.map_nil, List.length_cons, List.length_nil, Nat.reduceAdd, Nat.reduceSub, List.replicate_succ, List.replicate_zero, List.getElem?_cons_zero, List.getElem?_cons_succ, List.set_cons_zero, List.set_cons_succ, Option.some.injEq, exists_eq_left', exists_eq_left, exists_and_left, V.int.injEq, V.bl.injEq, V.ref.injEq, V.str.injEq, List.cons.injEq, and_true, true_and, List.nil_append, List.cons_append, List.append_nil, reduceCtorEq, false_and, exists_false, or_false, false_or, and_false, Int.reduceNeg, decide_eq_true_eq, Bool.not_eq_true', decide_eq_false_iff_not, and_assoc, tYes, ↓reduceIte, wipe, Bool.false_eq_true, Bool.true_eq_false, cxOf, false_implies, true_implies, implies_true, forall_const]
  suffices cont : ∀ (Hx : Hp) (O : Addr) (os : List Int), HandAt Hx h q → Pl h Hx D cs → Pl h Hx O os → cs.length + os.length ≤ 12 →
      R { nx := fun x H' => Q V.non H', rt := Q } [some (V.ref a), some (V.ref h), some (V.ref D), some (V.ref L), some (V.ref M), some (V.ref O), none, none, none, none, none, none] Hx by
    refine ⟨_, .inl (SqL.of pD13.at_), _, .inl (SqL.of pO13.at_), ?_⟩
    rw [List.length_map, List.length_map]
    split
    · rename_i g
      refine ⟨_, _, 2, rfl, by decide, by decide, ok_arg pD13.ok, ok_arg pO13.ok, .inr (.inr (.inr (.inr (.inl ⟨D, cs, O, os, pD13.ok, pO13.ok, rfl, by omega, fun H14 p s14 ep => ⟨by decide, fun v hv => ?_⟩⟩))))⟩
      refine ne_is ((Same.new hv) _ _ ep) upd_same (.inr rfl) ⟨_, rfl, ?_⟩
      rw [if_neg (fun z => by cases z)]
      have s15 := s14.trans (Same.new (o := HO.tup [V.int 0, V.str (Str.ofString "many")]) hv)
      have pD15 := pD13.same s15
      have pO15 := pO13.same s15
      have hh15 := hh13.same s15
      generalize upd H14 v (HO.tup [V.int 0, V.str (Str.ofString "many")]) = H15 at pD15 pO15 hh15 ⊢
      refine ⟨_, rfl, _, rfl, D, rfl, _, .inl (SqL.of pD15.at_), _, _, rfl, rfl, _, rfl, O, _, rfl, SqL.of pO15.at_, fun u hu => ?_⟩
      have e12 : (12 : Int) - ((cs.map V.int).length : Nat) = ((12 - cs.length : Nat) : Int) := by
        rw [List.length_map]
        have := pD15.len
        omega
      have su := Same.new (o := HO.lst (cutV (os.map V.int) none (some ((12 : Int) - ((cs.map V.int).length : Nat))))) hu
      refine cont _ u (os.take (12 - cs.length)) (hh15.same su) (pD15.same su) ⟨by rw [upd_same, e12, cut_to], hh15.off hu, by rw [List.length_take]; omega, fun m hm => pO15.bd m (List.mem_of_mem_take hm)⟩ (by rw [List.length_take]; have := pD15.len; omega)
    · rename_i g
      exact cont H13 O os hh13 pD13 pO13 (by omega)
  clear pO13 pD13 hh13 sO
  intro H13 O os hh13 pD13 pO13 l12
  subst eR
  refine tSeq_cut fun R eR => ?_
  simp only [tSeq, tAsg, tDrop, tRet, tRetN, tIfS, tNext, tTest, tB, tNot, tAnd, tOr, tChain, tIf, tAndV, tOrV, tNotV, tOp, tUn, tCB, tCons, tNil, tVar, tC, tCall, tCallS, gName, rI, rI0, rU, rEq, rNe, tTup, tLst, gSub, rSetL, rIxL, rIxT, L2.start, List.map_cons, List.map_nil, List.length_cons, List.length_nil, Nat.reduceAdd, Nat.reduceSub, List.replicate_succ, List.replicate_zero, List.getElem?_cons_zero, List.getElem?_cons_succ, List.set_cons_zero, List.set_cons_succ, Option.some.injEq, exists_eq_left', exists_eq_left, exists_and_left, V.int.injEq, V.bl.injEq, V.ref.injEq, V.str.injEq, List.cons.injEq, and_true, true_and, List.nil_append, List.cons_append, List.append_nil, reduceCtorEq, false_and, exists_false, or_false, false_or, and_false, Int.reduceNeg, decide_eq_true_eq, Bool.not_eq_true', decide_eq_false_iff_not, and_assoc, tYes, ↓reduceIte, wipe, Bool.false_eq_true, Bool.true_eq_false, cxOf, false_implies, true_implies, implies_true, forall_const]
  refine ⟨h, q, D, cs, rfl, hh13, pD13.at_, pD13.ne, pD13.len, fun H14 G gs hh14 b14 rG nG pG => ?_⟩
  have pO14 := pO13.but b14
  refine ⟨h, q, O, os, rfl, hh14, pO14.at_, pO14.ne, pO14.len, fun H15 W ws hh15 b15 rW nW pW => ?_⟩
  have pD15 := (pD13.but b14).but b15
  have pO15 := pO14.but b15
  have rG2 : Row H15 G (gs.map V.int) := rG.elim (fun e => .inl (b15 _ _ e nG)) fun e => .inr (b15 _ _ e nG)
  have oG : PoolOk H15 (.ref G) G gs := ⟨rfl, rG2, by rw [pG.length_eq]; exact pD15.len, fun m hm => pD15.bd m (pG.mem_iff.mp hm)⟩
  have oW : PoolOk H15 (.ref W) W ws := ⟨rfl, rW, by rw [pW.length_eq]; exact pO15.len, fun m hm => pO15.bd m (pW.mem_iff.mp hm)⟩
  have lg := pG.length_eq
  have lw := pW.length_eq
  refine ⟨_, _, rfl, ok_arg oG, ok_arg oW, pb_ok oG, fun _ _ _ => pb_ok oW, fun a1 n1 b1 m1 u1 u2 g => ?_, fun a1 n1 b1 m1 u1 u2 g H16 J zs s16 eJ pz sz => ?_⟩
  · rw [ok_one oG u1, ok_one oW u2] at g
    omega
  rw [ok_one oG u1, ok_one oW u2] at pz
  have pD16 := pD15.same s16
  have pO16 := pO15.same s16
  have hh16 := hh15.same s16
  have pz2 : zs.Perm (cs ++ os) := pz.trans (pG.append pW)
  have lz : zs.length ≤ 12 := by rw [pz2.length_eq, List.length_append]; exact l12
  have bz : ∀ m, m ∈ zs → 1 ≤ m ∧ m ≤ 1000000000 := fun m hm => (List.mem_append.mp (pz2.mem_iff.mp hm)).elim (pD16.bd m) (pO16.bd m)
  clear oG oW rG rG2 rW pO14 pO15 pD15 pG pW nG nW b14 b15 pD13 pO13 hh13 hh14 hh15 s16 u1 u2 g pz lg lw
  subst eR
  refine tSeq_cut fun R eR => ?_
  simp only [tSeq, tAsg, tDrop, tRet, tRetN, tIfS, tNext, tTest, tB, tNot, tAnd, tOr, tChain, tIf, tAndV, tOrV, tNotV, tOp, tUn, tCB, tCons, tNil, tVar, tC, tCall, tCallS, gName, rI, rI0, rU, rEq, rNe, tTup, tLst, gSub, rSetL, rIxL, rIxT, L2.start, List.map_cons, List.map_nil, List.length_cons, List.length_nil, Nat.reduceAdd, Nat.reduceSub, List.replicate_succ, List.replicate_zero, List.getElem?_cons_zero, List.getElem?_cons_succ, List.set_cons_zero, List.set_cons_succ, Option.some.injEq, exists_eq_left', exists_eq_left, exists_and_left, V.int.injEq, V.bl.injEq, V.ref.injEq, V.str.injEq, List.cons.injEq, and_true, true_and, List.nil_append, List.cons_append, List.append_nil, reduceCtorEq, false_and, exists_false, or_false, false_or, and_false, Int.reduceNeg, decide_eq_true_eq, Bool.not_eq_true', decide_eq_false_iff_not, and_assoc, tYes, ↓reduceIte, wipe, Bool.false_eq_true, Bool.true_eq_false, cxOf, false_implies, true_implies, implies_true, forall_const, rSortedE]
  refine ⟨J, zs, rfl, eJ, lz, fun n hn => (bz n hn).1, sz, fun H17 s17 => ⟨_, rfl, ?_⟩⟩
  rw [if_neg (fun z => by cases z)]
  have pD17 := pD16.same s17
  have pO17 := pO16.same s17
  have hh17 := hh16.same s17
  refine ⟨_, .inr (SqT.of (s17 _ _ eJ)), fun u hu => ?_⟩
  have su := Same.new (o := HO.lst (zs.map V.int)) hu
  refine ⟨D, O, _, _, rfl, rfl, (pD17.same su).at_, (pO17.same su).at_, by rw [List.length_map, List.length_map]; exact small300 (by omega), fun v hv => ⟨v, rfl, cs ++ os, .inl (SqL.of (by rw [upd_same, List.map_append])), fun ys p p1 p2 hp => ?_⟩⟩
  have ey : zs = ys := sorted_counts sz p2 fun x => by rw [pz2.count_eq, p1.count_eq]
  have sv := Same.new (o := HO.lst (cs.map V.int ++ os.map V.int)) hv
  have sp := Same.new (o := HO.lst (ys.map V.int)) hp
  refine ne_listI (ns := zs) (SqL.of (sp _ _ (sv _ _ upd_same))) (SqL.of upd_same) ⟨_, rfl, ?_⟩
  rw [decide_eq_true ey, if_neg (fun z => by cases z)]
  have s18 := su.trans (sv.trans sp)
  have pD18 := pD17.same s18
  have hh18 := hh17.same s18
  generalize upd (upd (upd H17 u (HO.lst (zs.map V.int))) v (HO.lst (cs.map V.int ++ os.map V.int))) p (HO.lst (ys.map V.int)) = H18 at pD18 hh18 ⊢
  clear s18 sp sv su hp hv hu pO17 pD17 hh17 s17 pD16 pO16 hh16 eJ pz2 ey p1
  subst eR
  refine tSeq_cut fun R eR => ?_
  simp only [tSeq, tAsg, tDrop, tRet, tRetN, tIfS, tNext, tTest, tB, tNot, tAnd, tOr, tChain, tIf, tAndV, tOrV, tNotV, tOp, tUn, tCB, tCons, tNil, tVar, tC, tCall, tCallS, gName, rI, rI0, rU, rEq, rNe, tTup, tLst, gSub, rSetL, rIxL, rIxT, L2.start, List.map_cons, List.map_nil, List.length_cons, List.length_nil, Nat.reduceAdd, Nat.reduceSub, List.replicate_succ, List.replicate_zero, List.getElem?_cons_zero, List.getElem?_cons_succ, List.set_cons_zero, List.set_cons_succ, Option.some.injEq, exists_eq_left', exists_eq_left, exists_and_left, V.int.injEq, V.bl.injEq, V.ref.injEq, V.str.injEq, List.cons.injEq, and_true, true_and, List.nil_append, List.cons_append, List.append_nil, reduceCtorEq, false_and, exists_false, or_false, false_or, and_false, Int.reduceNeg, decide_eq_true_eq, Bool.not_eq_true', decide_eq_false_iff_not, and_assoc, tYes, ↓reduceIte, wipe, Bool.false_eq_true, Bool.true_eq_false, cxOf, false_implies, true_implies, implies_true, forall_const, spDraw]
  refine ⟨q, hh18, by decide, by decide, fun j H19 j0 j1 hh19 b19 => ?_⟩
  have pD19 := pD18.but b19
  subst eR
  refine tSeq_cut fun R eR => ?_
  simp only [tSeq, tAsg, tDrop, tRet, tRetN, tIfS, tNext, tTest, tB, tNot, tAnd, tOr, tChain, tIf, tAndV, tOrV, tNotV, tOp, tUn, tCB, tCons, tNil, tVar, tC, tCall, tCallS, gName, rI, rI0, rU, rEq, rNe, tTup, tLst, gSub, rSetL, rIxL, rIxT, L2.start, List.map_cons, List.map_nil, List.length_cons, List.length_nil, Nat.reduceAdd, Nat.reduceSub, List.replicate_succ, List.replicate_zero, List.getElem?_cons_zero, List.getElem?_cons_succ, List.set_cons_zero, List.set_cons_succ, Option.some.injEq, exists_eq_left', exists_eq_left, exists_and_left, V.int.injEq, V.bl.injEq, V.ref.injEq, V.str.injEq, List.cons.injEq, and_true, true_and, List.nil_append, List.cons_append, List.append_nil, reduceCtorEq, false_and, exists_false, or_false, false_or, and_false, Int.reduceNeg, decide_eq_true_eq, Bool.not_eq_true', decide_eq_false_iff_not, and_assoc, tYes, ↓reduceIte, wipe, Bool.false_eq_true, Bool.true_eq_false, cxOf, false_implies, true_implies, implies_true, forall_const]
  refine ⟨_, rfl, by decide, by decide, fun X hX => ?_⟩
  have n1 := hh19.off hX
  have n2 := handOffq hh19 hX
  have nXD : X ≠ D := fun z => by rw [z, pD19.at_] at hX; cases hX
  refine lc_range (lo := 0) (n := 12) (fun i h' => ∃ ms : List Int, HandAt h' h q ∧ But h H19 h' ∧ h' X = some (.lst (ms.map V.int)) ∧ ms.length = i ∧ ∀ m, m ∈ ms → 1 ≤ m ∧ m ≤ 1000000000)
    ⟨[], hh19.same (Same.new hX), But.new hX, upd_same, rfl, fun m hm => absurd hm List.not_mem_nil⟩ ?_ ?_
  · rintro i h' hi ⟨ms, hd, bt, eX, ln, mb⟩
    simp only [tSeq, tAsg, tDrop, tRet, tRetN, tIfS, tNext, tTest, tB, tNot, tAnd, tOr, tChain, tIf, tAndV, tOrV, tNotV, tOp, tUn, tCB, tCons, tNil, tVar, tC, tCall, tCallS, gName, rI, rI0, rU, rEq, rNe, tTup, tLst, gSub, rSetL, rIxL, rIxT, L2.start, List.map_cons, List.map_nil, List.length_cons, List.length_nil, Nat.reduceAdd, Nat.reduceSub, List.replicate_succ, List.replicate_zero, List.getElem?_cons_zero, List.getElem?_cons_succ, List.set_cons_zero, List.set_cons_succ, Option.some.injEq, exists_eq_left', exists_eq_left, exists_and_left, V.int.injEq, V.bl.injEq, V.ref.injEq, V.str.injEq, List.cons.injEq, and_true, true_and, List.nil_append, List.cons_append, List.append_nil, reduceCtorEq, false_and, exists_false, or_false, false_or, and_false, Int.reduceNeg, decide_eq_true_eq, Bool.not_eq_true', decide_eq_false_iff_not, and_assoc, tYes, ↓reduceIte, wipe, Bool.false_eq_true, Bool.true_eq_false, cxOf, false_implies, true_implies, implies_true, forall_const, spDraw]
    refine ⟨q, hd, by decide, by decide, fun y H4 y0 y1 hd4 b4 => ?_⟩
    refine ⟨_, b4 _ _ eX n1, by rw [List.length_map]; exact small1000 (by omega), handPut hd4 n1 n2, butAt (bt.trans b4) hX, ms ++ [1 + y], by rw [upd_same, List.map_append]; rfl, by rw [List.length_append, ln]; rfl, fun m hm => ?_⟩
    rcases List.mem_append.mp hm with hm | hm
    · exact mb m hm
    · rw [List.mem_singleton.mp hm]
      exact ⟨by omega, by omega⟩
  rintro H20 ⟨xs, hh20, b20, eX, lx, bx⟩
  have pD20 := pD19.but b20
  clear pD18 pD19 hh18 hh19 b19 b20 hX
  subst eR
  refine tSeq_cut fun R eR => ?_
  simp only [tSeq, tAsg, tDrop, tRet, tRetN, tIfS, tNext, tTest, tB, tNot, tAnd, tOr, tChain, tIf, tAndV, tOrV, tNotV, tOp, tUn, tCB, tCons, tNil, tVar, tC, tCall, tCallS, gName, rI, rI0, rU, rEq, rNe, tTup, tLst, gSub, rSetL, rIxL, rIxT, L2.start, List.map_cons, List.map_nil, List.length_cons, List.length_nil, Nat.reduceAdd, Nat.reduceSub, List.replicate_succ, List.replicate_zero, List.getElem?_cons_zero, List.getElem?_cons_succ, List.set_cons_zero, List.set_cons_succ, Option.some.injEq, exists_eq_left', exists_eq_left, exists_and_left, V.int.injEq, V.bl.injEq, V.ref.injEq, V.str.injEq, List.cons.injEq, and_true, true_and, List.nil_append, List.cons_append, List.append_nil, reduceCtorEq, false_and, exists_false, or_false, false_or, and_false, Int.reduceNeg, decide_eq_true_eq, Bool.not_eq_true', decide_eq_false_iff_not, and_assoc, tYes, ↓reduceIte, wipe, Bool.false_eq_true, Bool.true_eq_false, cxOf, false_implies, true_implies, implies_true, forall_const]
  refine ⟨h, q, rfl, hh20, fun x H21 px wx fx hh21 b21 => ?_⟩
  have eX21 := b21 _ _ eX n1
  obtain ⟨j, rfl⟩ := Int.eq_ofNat_of_zero_le j0
  refine ⟨_, eX21, j, ?_, ?_⟩
  · unfold ixN
    rw [if_pos (by omega), if_pos (by rw [List.length_map]; omega)]
    simp
  have nxX : x ≠ .ref X := fun z => by
    have y := fx X z
    rw [eX] at y
    cases y
  have px22 := plain_upd (o := HO.lst ((xs.map V.int).set j x)) px nxX
  have hh22 := handPut (o := HO.lst ((xs.map V.int).set j x)) hh21 n1 n2
  have pD21 := pD20.but b21
  have pD22 : Pl h (upd H21 X (HO.lst ((xs.map V.int).set j x))) D cs := ⟨by rw [upd_ne (Ne.symm nXD)]; exact pD21.at_, pD21.ne, pD21.len, pD21.bd⟩
  have eX22 : upd H21 X (HO.lst ((xs.map V.int).set j x)) X = some (.lst ((xs.map V.int).set j x)) := upd_same
  generalize upd H21 X (HO.lst ((xs.map V.int).set j x)) = H22 at px22 hh22 pD22 eX22 ⊢
  clear px fx pD21 pD20 hh21 hh20 b21 eX eX21
  subst eR
  refine tSeq_cut fun R eR => ?_
  simp only [tSeq, tAsg, tDrop, tRet, tRetN, tIfS, tNext, tTest, tB, tNot, tAnd, tOr, tChain, tIf, tAndV, tOrV, tNotV, tOp, tUn, tCB, tCons, tNil, tVar, tC, tCall, tCallS, gName, rI, rI0, rU, rEq, rNe, tTup, tLst, gSub, rSetL, rIxL, rIxT, L2.start, List.map_cons, List.map_nil, List.length_cons, List.length_nil, Nat.reduceAdd, Nat.reduceSub, List.replicate_succ, List.replicate_zero, List.getElem?_cons_zero, List.getElem?_cons_succ, List.set_cons_zero, List.set_cons_succ, Option.some.injEq, exists_eq_left', exists_eq_left, exists_and_left, V.int.injEq, V.bl.injEq, V.ref.injEq, V.str.injEq, List.cons.injEq, and_true, true_and, List.nil_append, List.cons_append, List.append_nil, reduceCtorEq, false_and, exists_false, or_false, false_or, and_false, Int.reduceNeg, decide_eq_true_eq, Bool.not_eq_true', decide_eq_false_iff_not, and_assoc, tYes, ↓reduceIte, wipe, Bool.false_eq_true, Bool.true_eq_false, cxOf, false_implies, true_implies, implies_true, forall_const, spDraw]
  refine ⟨q, hh22, by decide, by decide, fun t H23 t0 t1 hh23 b23 => ?_⟩
  have pD23 := pD22.but b23
  have px23 := plain_but hh23 b23 px22
  have eX23 := b23 _ _ eX22 n1
  clear pD22 px22 eX22 hh22 b23
  have lX : ((xs.map V.int).set j x).length = 12 := by rw [List.length_set, List.length_map]; exact lx
  have bX : ∀ Hx, Hx X = some (HO.lst ((xs.map V.int).set j x)) → BadAt Hx (.ref X) X ((xs.map V.int).set j x) j x := fun Hx e => by
    refine ⟨rfl, .inr e, by rw [lX]; exact Nat.le_refl _, fun m y hm hy => ?_, by rw [List.getElem?_set_self (by rw [List.length_map]; omega)], wx⟩
    rw [List.getElem?_set_ne (Nat.ne_of_gt hm)] at hy
    obtain ⟨n, hn, rfl⟩ := nat_map hy
    have nb := bx n (List.mem_of_getElem? hn)
    exact whole_int nb.1 nb.2
  have aX : ∀ Hx, Hx X = some (HO.lst ((xs.map V.int).set j x)) → Plain Hx x → Arg Hx (.ref X) := fun Hx e p => arg_row (.inr e) fun y hy => by
    rcases List.mem_or_eq_of_mem_set hy with hy | rfl
    · obtain ⟨n, _, rfl⟩ := List.mem_map.mp hy
      exact True.intro
    · exact p
  subst eR
  refine tSeq_cut fun R eR => ?_
  simp only [tSeq, tAsg, tDrop, tRet, tRetN, tIfS, tNext, tTest, tB, tNot, tAnd, tOr, tChain, tIf, tAndV, tOrV, tNotV, tOp, tUn, tCB, tCons, tNil, tVar, tC, tCall, tCallS, gName, rI, rI0, rU, rEq, rNe, tTup, tLst, gSub, rSetL, rIxL, rIxT, L2.start, List.map_cons, List.map_nil, List.length_cons, List.length_nil, Nat.reduceAdd, Nat.reduceSub, List.replicate_succ, List.replicate_zero, List.getElem?_cons_zero, List.getElem?_cons_succ, List.set_cons_zero, List.set_cons_succ, Option.some.injEq, exists_eq_left', exists_eq_left, exists_and_left, V.int.injEq, V.bl.injEq, V.ref.injEq, V.str.injEq, List.cons.injEq, and_true, true_and, List.nil_append, List.cons_append, List.append_nil, reduceCtorEq, false_and, exists_false, or_false, false_or, and_false, Int.reduceNeg, decide_eq_true_eq, Bool.not_eq_true', decide_eq_false_iff_not, and_assoc, tYes, ↓reduceIte, wipe, Bool.false_eq_true, Bool.true_eq_false, cxOf, false_implies, true_implies, implies_true, forall_const]
  refine ⟨V.ref X, V.non, t, rfl, t0, t1, aX _ eX23 px23, (arg_no (x := V.non) True.intro fun a z => nomatch z).1, .inr (.inl ⟨X, _, j, x, bX _ eX23, fun H24 p s24 ep => ⟨by decide, fun v hv => ?_⟩⟩)⟩
  refine ne_is ((Same.new hv) _ _ ep) upd_same (.inl rfl) ⟨_, rfl, ?_⟩
  rw [if_neg (fun z => by cases z)]
  have s25 := s24.trans (Same.new (o := HO.tup [V.int (j : Int), V.str (Str.ofString "coin")]) hv)
  have pD25 := pD23.same s25
  have px25 := px23.same s25
  have eX25 := s25 _ _ eX23
  have hh25 := hh23.same s25
  generalize upd H24 v (HO.tup [V.int (j : Int), V.str (Str.ofString "coin")]) = H25 at pD25 px25 eX25 hh25 ⊢
  clear s25 s24 hv ep pD23 px23 eX23 hh23
  refine ⟨_, _, t, rfl, t0, t1, ok_arg pD25.ok, aX _ eX25 px25, .inr (.inr (.inr (.inl ⟨D, cs, X, _, j, x, pD25.ok, bX _ eX25, fun H26 p s26 ep => ⟨by decide, fun v hv => ?_⟩⟩)))⟩
  refine ne_is ((Same.new hv) _ _ ep) upd_same (.inl rfl) ⟨_, rfl, ?_⟩
  rw [if_neg (fun z => by cases z)]
  have s27 := s26.trans (Same.new (o := HO.tup [V.int (j : Int), V.str (Str.ofString "coin")]) hv)
  have pD27 := pD25.same s27
  have px27 := px25.same s27
  have eX27 := s27 _ _ eX25
  have hh27 := hh25.same s27
  generalize upd H26 v (HO.tup [V.int (j : Int), V.str (Str.ofString "coin")]) = H27 at pD27 px27 eX27 hh27 ⊢
  clear s27 s26 hv ep pD25 px25 eX25 hh25
  subst eR
  refine tSeq_cut fun R eR => ?_
  simp only [tSeq, tAsg, tDrop, tRet, tRetN, tIfS, tNext, tTest, tB, tNot, tAnd, tOr, tChain, tIf, tAndV, tOrV, tNotV, tOp, tUn, tCB, tCons, tNil, tVar, tC, tCall, tCallS, gName, rI, rI0, rU, rEq, rNe, tTup, tLst, gSub, rSetL, rIxL, rIxT, L2.start, List.map_cons, List.map_nil, List.length_cons, List.length_nil, Nat.reduceAdd, Nat.reduceSub, List.replicate_succ, List.replicate_zero, List.getElem?_cons_zero, List.getElem?_cons_succ, List.set_cons_zero, List.set_cons_succ, Option.some.injEq, exists_eq_left', exists_eq_left, exists_and_left, V.int.injEq, V.bl.injEq, V.ref.injEq, V.str.injEq, List.cons.injEq, and_true, true_and, List.nil_append, List.cons_append, List.append_nil, reduceCtorEq, false_and, exists_false, or_false, false_or, and_false, Int.reduceNeg, decide_eq_true_eq, Bool.not_eq_true', decide_eq_false_iff_not, and_assoc, tYes, ↓reduceIte, wipe, Bool.false_eq_true, Bool.true_eq_false, cxOf, false_implies, true_implies, implies_true, forall_const, spDraw]
  refine ⟨by decide, fun u hu => ⟨q, hh27.same (Same.new hu), by decide, by decide, fun e H28 e0 e1 hh28 b28 => ?_⟩⟩
  obtain ⟨y, hy, ey⟩ := atI_in (xs := [V.non, V.str (Str.ofString "1"), V.int 7]) e0 e1
  refine ⟨_, SqT.of (b28 _ _ upd_same (hh27.off hu)), y, ey, ?_⟩
  have su := Same.new (o := HO.tup [V.non, V.str (Str.ofString "1"), V.int 7]) hu
  have pD28 := (pD27.same su).but b28
  have px28 := plain_but hh28 b28 (px27.same su)
  have eX28 := b28 _ _ (su _ _ eX27) n1
  have yn : ∀ Hx, Arg Hx y ∧ ¬ FewRow Hx y := fun Hx => by
    simp only [List.mem_cons, List.not_mem_nil, or_false] at hy
    rcases hy with rfl | rfl | rfl
    · exact arg_no True.intro fun a z => nomatch z
    · exact arg_no True.intro fun a z => nomatch z
    · exact arg_no True.intro fun a z => nomatch z
  clear su b28 pD27 px27 eX27 hh27 hu
  subst eR
  refine tSeq_cut fun R eR => ?_
  simp only [tSeq, tAsg, tDrop, tRet, tRetN, tIfS, tNext, tTest, tB, tNot, tAnd, tOr, tChain, tIf, tAndV, tOrV, tNotV, tOp, tUn, tCB, tCons, tNil, tVar, tC, tCall, tCallS, gName, rI, rI0, rU, rEq, rNe, tTup, tLst, gSub, rSetL, rIxL, rIxT, L2.start, List.map_cons, List.map_nil, List.length_cons, List.length_nil, Nat.reduceAdd, Nat.reduceSub, List.replicate_succ, List.replicate_zero, List.getElem?_cons_zero, List.getElem?_cons_succ, List.set_cons_zero, List.set_cons_succ, Option.some.injEq, exists_eq_left', exists_eq_left, exists_and_left, V.int.injEq, V.bl.injEq, V.ref.injEq, V.str.injEq, List.cons.injEq, and_true, true_and, List.nil_append, List.cons_append, List.append_nil, reduceCtorEq, false_and, exists_false, or_false, false_or, and_false, Int.reduceNeg, decide_eq_true_eq, Bool.not_eq_true', decide_eq_false_iff_not, and_assoc, tYes, ↓reduceIte, wipe, Bool.false_eq_true, Bool.true_eq_false, cxOf, false_implies, true_implies, implies_true, forall_const]
  refine ⟨_, _, t, rfl, t0, t1, (yn H28).1, aX _ eX28 px28, .inl ⟨(yn H28).2, fun H29 p s29 ep => ⟨by decide, fun v hv => ?_⟩⟩⟩
  refine ne_is ((Same.new hv) _ _ ep) upd_same (.inr rfl) ⟨_, rfl, ?_⟩
  rw [if_neg (fun z => by cases z)]
  have s30 := s29.trans (Same.new (o := HO.tup [V.int 0, V.str (Str.ofString "many")]) hv)
  have pD30 := pD28.same s30
  have hh30 := hh28.same s30
  generalize upd H29 v (HO.tup [V.int 0, V.str (Str.ofString "many")]) = H30 at pD30 hh30 ⊢
  clear s30 s29 hv ep pD28 px28 eX28 hh28
  have r13 : ∀ x, x ∈ (List.replicate (Int.toNat 13) [V.int 1]).flatten → x = V.int 1 := fun x hx => by
    obtain ⟨l, hl, hx⟩ := List.mem_flatten.mp hx
    rw [List.eq_of_mem_replicate hl] at hx
    exact List.mem_singleton.mp hx
  have l13 : 12 < ((List.replicate (Int.toNat 13) [V.int 1]).flatten).length := by decide
  refine ⟨by decide, fun l5 h5 => ⟨l5, 13, [V.int 1], rfl, rfl, upd_same, by decide, by decide, (by show 1 * 13 ≤ sizeLine; decide), fun l6 h6 => ?_⟩⟩
  have sA := (Same.new (o := HO.lst [V.int 1]) h5).trans (Same.new (o := HO.lst (List.replicate (Int.toNat 13) [V.int 1]).flatten) h6)
  have e6 : upd (upd H30 l5 (HO.lst [V.int 1])) l6 (HO.lst (List.replicate (Int.toNat 13) [V.int 1]).flatten) l6 = some (HO.lst (List.replicate (Int.toNat 13) [V.int 1]).flatten) := upd_same
  have pD31 := pD30.same sA
  generalize upd (upd H30 l5 (HO.lst [V.int 1])) l6 (HO.lst (List.replicate (Int.toNat 13) [V.int 1]).flatten) = H31 at sA e6 pD31 ⊢
  have rw6 : Row H31 l6 (List.replicate (Int.toNat 13) [V.int 1]).flatten := .inr e6
  refine ⟨V.ref D, V.ref l6, t, rfl, t0, t1, ok_arg pD31.ok, arg_row rw6 fun x hx => by rw [r13 x hx]; exact True.intro, .inr (.inr (.inl ⟨D, cs, pD31.ok, few_row rw6 l13, fun H32 p s32 ep => ⟨by decide, fun v hv => ?_⟩⟩))⟩
  refine ne_is ((Same.new hv) _ _ ep) upd_same (.inr rfl) ⟨_, rfl, ?_⟩
  rw [if_neg (fun z => by cases z)]
  have pD33 := pD31.same (s32.trans (Same.new (o := HO.tup [V.int 0, V.str (Str.ofString "many")]) hv))
  generalize upd H32 v (HO.tup [V.int 0, V.str (Str.ofString "many")]) = H33 at pD33 ⊢
  clear hv ep s32 e6 rw6 sA pD31 h5 h6 pD30 hh30
  subst eR
  simp only [tSeq, tAsg, tDrop, tRet, tRetN, tIfS, tNext, tTest, tB, tNot, tAnd, tOr, tChain, tIf, tAndV, tOrV, tNotV, tOp, tUn, tCB, tCons, tNil, tVar, tC, tCall, tCallS, gName, rI, rI0, rU, rEq, rNe, tTup, tLst, gSub, rSetL, rIxL, rIxT, L2.start, List.map_cons, List.map_nil, List.length_cons, List.length_nil, Nat.reduceAdd, Nat.reduceSub, List.replicate_succ, List.replicate_zero, List.getElem?_cons_zero, List.getElem?_cons_succ, List.set_cons_zero, List.set_cons_succ, Option.some.injEq, exists_eq_left', exists_eq_left, exists_and_left, V.int.injEq, V.bl.injEq, V.ref.injEq, V.str.injEq, List.cons.injEq, and_true, true_and, List.nil_append, List.cons_append, List.append_nil, reduceCtorEq, false_and, exists_false, or_false, false_or, and_false, Int.reduceNeg, decide_eq_true_eq, Bool.not_eq_true', decide_eq_false_iff_not, and_assoc, tYes, ↓reduceIte, wipe, Bool.false_eq_true, Bool.true_eq_false, cxOf, false_implies, true_implies, implies_true, forall_const]
  refine ⟨V.ref D, V.ref D, 1, rfl, by decide, by decide, ok_arg pD33.ok, ok_arg pD33.ok, .inr (.inr (.inr (.inr (.inr (.inl ⟨D, cs, D, cs, pD33.ok, pD33.ok, rfl, fun _ => Nat.le_refl _, fun H34 s34 => eq_strD (by decide +kernel) ⟨_, rfl, ?_⟩⟩)))))⟩
  rw [if_pos rfl]
  refine ⟨Nat.zero_le _, fun p hp => ?_⟩
  have s35 := s34.trans (Same.new (o := HO.tup []) hp)
  have o35 := (pD33.same s35).ok
  have oE : PoolOk (upd H34 p (HO.tup [])) (.ref p) p [] := ⟨rfl, .inl upd_same, Nat.zero_le _, fun n hn => absurd hn List.not_mem_nil⟩
  exact ⟨V.ref D, V.ref p, 2, rfl, by decide, by decide, ok_arg o35, ok_arg oE, .inr (.inr (.inr (.inr (.inr (.inr ⟨D, cs, p, [], o35, oE, rfl, pD33.len, fun H36 s36 => eq_strD (by decide +kernel) (k H36)⟩)))))⟩
end
end My
set_option Elab.async false
set_option linter.all false
set_option maxRecDepth 100000
set_option maxHeartbeats 8000000
namespace My
open PySem PySem.Spec PyProof.Rows L2 Gen
theorem all_mk {l : PySem.W.OpenLaw} {w : World} {K : PySem.W.Frag} {h : Heap} {mg : Str → Option Value} {fa : Addr}
    {cBadPool cBadLot : Addr}
    {a1 : Addr} {od1 an1 : Option Addr} {sl1 : Array (Option Value)} {oc1 kV1 dc1 pm1 cd1 ct1 : Value}
    {a2 : Addr} {od2 an2 : Option Addr} {sl2 : Array (Option Value)} {oc2 kV2 dc2 pm2 cd2 ct2 : Value}
    {a3 : Addr} {od3 an3 : Option Addr} {sl3 : Array (Option Value)} {oc3 kV3 dc3 pm3 cd3 ct3 : Value}
    {a4 : Addr} {od4 an4 : Option Addr} {sl4 : Array (Option Value)} {oc4 kV4 dc4 pm4 cd4 ct4 : Value}
    {a5 : Addr} {od5 an5 : Option Addr} {sl5 : Array (Option Value)} {oc5 kV5 dc5 pm5 cd5 ct5 : Value}
    {a6 : Addr} {od6 an6 : Option Addr} {sl6 : Array (Option Value)} {oc6 kV6 dc6 pm6 cd6 ct6 : Value}
    {a7 : Addr} {od7 an7 : Option Addr} {sl7 : Array (Option Value)} {oc7 kV7 dc7 pm7 cd7 ct7 : Value}
    {a8 : Addr} {od8 an8 : Option Addr} {sl8 : Array (Option Value)} {oc8 kV8 dc8 pm8 cd8 ct8 : Value}
    {a9 : Addr} {od9 an9 : Option Addr} {sl9 : Array (Option Value)} {oc9 kV9 dc9 pm9 cd9 ct9 : Value}
    {a10 : Addr} {od10 an10 : Option Addr} {sl10 : Array (Option Value)} {oc10 kV10 dc10 pm10 cd10 ct10 : Value}
    {a11 : Addr} {od11 an11 : Option Addr} {sl11 : Array (Option Value)} {oc11 kV11 dc11 pm11 cd11 ct11 : Value}
    {a12 : Addr} {od12 an12 : Option Addr} {sl12 : Array (Option Value)} {oc12 kV12 dc12 pm12 cd12 ct12 : Value}
    {a13 : Addr} {od13 an13 : Option Addr} {sl13 : Array (Option Value)} {oc13 kV13 dc13 pm13 cd13 ct13 : Value}
    {a14 : Addr} {od14 an14 : Option Addr} {sl14 : Array (Option Value)} {oc14 kV14 dc14 pm14 cd14 ct14 : Value}
    {a15 : Addr} {od15 an15 : Option Addr} {sl15 : Array (Option Value)} {oc15 kV15 dc15 pm15 cd15 ct15 : Value}
    {a16 : Addr} {od16 an16 : Option Addr} {sl16 : Array (Option Value)} {oc16 kV16 dc16 pm16 cd16 ct16 : Value}
    {a17 : Addr} {od17 an17 : Option Addr} {sl17 : Array (Option Value)} {oc17 kV17 dc17 pm17 cd17 ct17 : Value}
    {a18 : Addr} {od18 an18 : Option Addr} {sl18 : Array (Option Value)} {oc18 kV18 dc18 pm18 cd18 ct18 : Value}
    {a19 : Addr} {od19 an19 : Option Addr} {sl19 : Array (Option Value)} {oc19 kV19 dc19 pm19 cd19 ct19 : Value}
    {a20 : Addr} {od20 an20 : Option Addr} {sl20 : Array (Option Value)} {oc20 kV20 dc20 pm20 cd20 ct20 : Value}
    {a21 : Addr} {od21 an21 : Option Addr} {sl21 : Array (Option Value)} {oc21 kV21 dc21 pm21 cd21 ct21 : Value}
    {a22 : Addr} {od22 an22 : Option Addr} {sl22 : Array (Option Value)} {oc22 kV22 dc22 pm22 cd22 ct22 : Value}
    {a23 : Addr} {od23 an23 : Option Addr} {sl23 : Array (Option Value)} {oc23 kV23 dc23 pm23 cd23 ct23 : Value}
    {a24 : Addr} {od24 an24 : Option Addr} {sl24 : Array (Option Value)} {oc24 kV24 dc24 pm24 cd24 ct24 : Value}
    {a25 : Addr} {od25 an25 : Option Addr} {sl25 : Array (Option Value)} {oc25 kV25 dc25 pm25 cd25 ct25 : Value}
    {a26 : Addr} {od26 an26 : Option Addr} {sl26 : Array (Option Value)} {oc26 kV26 dc26 pm26 cd26 ct26 : Value}
    {a27 : Addr} {od27 an27 : Option Addr} {sl27 : Array (Option Value)} {oc27 kV27 dc27 pm27 cd27 ct27 : Value}
    {a28 : Addr} {od28 an28 : Option Addr} {sl28 : Array (Option Value)} {oc28 kV28 dc28 pm28 cd28 ct28 : Value}
    {a29 : Addr} {od29 an29 : Option Addr} {sl29 : Array (Option Value)} {oc29 kV29 dc29 pm29 cd29 ct29 : Value}
    {tk_MOST_COINS : Tok}
    {tk_GREATEST_COIN : Tok}
    {nm_BadPool q_BadPool : Str} {N_BadPool B_BadPool : Addr} {bs_BadPool : List Value} {sn_BadPool : List Str} {sub_BadPool : List Value} {ab_BadPool : Bool} {col_BadPool : Option Bool} {dd_BadPool : Option Addr} {m0_BadPool m1_BadPool m2_BadPool m3_BadPool m5_BadPool : Option Value} (X : K.In h) (G : h.Ns mainGlobals mg) (hfa : mg "law" = some (.ref fa))
    (g_BadPool : PySem.W.nsIn K mainGlobals "BadPool" = some (some (.ref cBadPool)))
    (g_BadLot : PySem.W.nsIn K mainGlobals "BadLot" = some (some (.ref cBadLot)))
    (a_i_BadPool : PySem.W.findIn K (.ref cBadPool) "__init__" = some (some (.ref a1)))
    (l_i_BadPool : K.lookup a1 = some ⟨oc1, od1, .func (PySem.W.fnOf "__init__" "BadPool.__init__" (defArgs s_i_BadPool) (defBody s_i_BadPool) (defScope s_i_BadPool) .none kV1 dc1 pm1 an1 cd1 ct1), sl1⟩)
    (c_i_BadPool : PySem.W.codeIn K cd1 "BadPool.__init__" = true)
    (k_i_BadPool : PySem.W.keepIn K (.ref a1) = true)
    (t_i_BadPool : PySem.W.typeIn K (.ref a1) = some (.type "function"))
    (a_is_number : PySem.W.nsIn K mainGlobals "is_number" = some (some (.ref a2)))
    (l_is_number : K.lookup a2 = some ⟨oc2, od2, .func (PySem.W.fnOf "is_number" "is_number" (defArgs s_is_number) (defBody s_is_number) (defScope s_is_number) .none kV2 dc2 pm2 an2 cd2 ct2), sl2⟩)
    (c_is_number : PySem.W.codeIn K cd2 "is_number" = true)
    (k_is_number : PySem.W.keepIn K (.ref a2) = true)
    (a_is_whole : PySem.W.nsIn K mainGlobals "is_whole" = some (some (.ref a3)))
    (l_is_whole : K.lookup a3 = some ⟨oc3, od3, .func (PySem.W.fnOf "is_whole" "is_whole" (defArgs s_is_whole) (defBody s_is_whole) (defScope s_is_whole) .none kV3 dc3 pm3 an3 cd3 ct3), sl3⟩)
    (c_is_whole : PySem.W.codeIn K cd3 "is_whole" = true)
    (k_is_whole : PySem.W.keepIn K (.ref a3) = true)
    (a_is_row : PySem.W.nsIn K mainGlobals "is_row" = some (some (.ref a4)))
    (l_is_row : K.lookup a4 = some ⟨oc4, od4, .func (PySem.W.fnOf "is_row" "is_row" (defArgs s_is_row) (defBody s_is_row) (defScope s_is_row) .none kV4 dc4 pm4 an4 cd4 ct4), sl4⟩)
    (c_is_row : PySem.W.codeIn K cd4 "is_row" = true)
    (k_is_row : PySem.W.keepIn K (.ref a4) = true)
    (a_check_pool : PySem.W.nsIn K mainGlobals "check_pool" = some (some (.ref a5)))
    (l_check_pool : K.lookup a5 = some ⟨oc5, od5, .func (PySem.W.fnOf "check_pool" "check_pool" (defArgs s_check_pool) (defBody s_check_pool) (defScope s_check_pool) .none kV5 dc5 pm5 an5 cd5 ct5), sl5⟩)
    (c_check_pool : PySem.W.codeIn K cd5 "check_pool" = true)
    (k_check_pool : PySem.W.keepIn K (.ref a5) = true)
    (a_has_lot : PySem.W.nsIn K mainGlobals "has_lot" = some (some (.ref a6)))
    (l_has_lot : K.lookup a6 = some ⟨oc6, od6, .func (PySem.W.fnOf "has_lot" "has_lot" (defArgs s_has_lot) (defBody s_has_lot) (defScope s_has_lot) .none kV6 dc6 pm6 an6 cd6 ct6), sl6⟩)
    (c_has_lot : PySem.W.codeIn K cd6 "has_lot" = true)
    (k_has_lot : PySem.W.keepIn K (.ref a6) = true)
    (a_is_within : PySem.W.nsIn K mainGlobals "is_within" = some (some (.ref a7)))
    (l_is_within : K.lookup a7 = some ⟨oc7, od7, .func (PySem.W.fnOf "is_within" "is_within" (defArgs s_is_within) (defBody s_is_within) (defScope s_is_within) .none kV7 dc7 pm7 an7 cd7 ct7), sl7⟩)
    (c_is_within : PySem.W.codeIn K cd7 "is_within" = true)
    (k_is_within : PySem.W.keepIn K (.ref a7) = true)
    (a_less_lot : PySem.W.nsIn K mainGlobals "less_lot" = some (some (.ref a8)))
    (l_less_lot : K.lookup a8 = some ⟨oc8, od8, .func (PySem.W.fnOf "less_lot" "less_lot" (defArgs s_less_lot) (defBody s_less_lot) (defScope s_less_lot) .none kV8 dc8 pm8 an8 cd8 ct8), sl8⟩)
    (c_less_lot : PySem.W.codeIn K cd8 "less_lot" = true)
    (k_less_lot : PySem.W.keepIn K (.ref a8) = true)
    (a_rest_of : PySem.W.nsIn K mainGlobals "rest_of" = some (some (.ref a9)))
    (l_rest_of : K.lookup a9 = some ⟨oc9, od9, .func (PySem.W.fnOf "rest_of" "rest_of" (defArgs s_rest_of) (defBody s_rest_of) (defScope s_rest_of) .none kV9 dc9 pm9 an9 cd9 ct9), sl9⟩)
    (c_rest_of : PySem.W.codeIn K cd9 "rest_of" = true)
    (k_rest_of : PySem.W.keepIn K (.ref a9) = true)
    (a_joined_pools : PySem.W.nsIn K mainGlobals "joined_pools" = some (some (.ref a10)))
    (l_joined_pools : K.lookup a10 = some ⟨oc10, od10, .func (PySem.W.fnOf "joined_pools" "joined_pools" (defArgs s_joined_pools) (defBody s_joined_pools) (defScope s_joined_pools) .none kV10 dc10 pm10 an10 cd10 ct10), sl10⟩)
    (c_joined_pools : PySem.W.codeIn K cd10 "joined_pools" = true)
    (k_joined_pools : PySem.W.keepIn K (.ref a10) = true)
    (a_l_mix : PySem.W.nsIn K mainGlobals "_law_mix" = some (some (.ref a11)))
    (l_l_mix : K.lookup a11 = some ⟨oc11, od11, .func (PySem.W.fnOf "_law_mix" "_law_mix" (defArgs s_l_mix) (defBody s_l_mix) (defScope s_l_mix) .none kV11 dc11 pm11 an11 cd11 ct11), sl11⟩)
    (c_l_mix : PySem.W.codeIn K cd11 "_law_mix" = true)
    (k_l_mix : PySem.W.keepIn K (.ref a11) = true)
    (a_l_hand : PySem.W.nsIn K mainGlobals "_law_hand" = some (some (.ref a12)))
    (l_l_hand : K.lookup a12 = some ⟨oc12, od12, .func (PySem.W.fnOf "_law_hand" "_law_hand" (defArgs s_l_hand) (defBody s_l_hand) (defScope s_l_hand) .none kV12 dc12 pm12 an12 cd12 ct12), sl12⟩)
    (c_l_hand : PySem.W.codeIn K cd12 "_law_hand" = true)
    (k_l_hand : PySem.W.keepIn K (.ref a12) = true)
    (a_l_draw : PySem.W.nsIn K mainGlobals "_law_draw" = some (some (.ref a13)))
    (l_l_draw : K.lookup a13 = some ⟨oc13, od13, .func (PySem.W.fnOf "_law_draw" "_law_draw" (defArgs s_l_draw) (defBody s_l_draw) (defScope s_l_draw) .none kV13 dc13 pm13 an13 cd13 ct13), sl13⟩)
    (c_l_draw : PySem.W.codeIn K cd13 "_law_draw" = true)
    (k_l_draw : PySem.W.keepIn K (.ref a13) = true)
    (a_l_big : PySem.W.nsIn K mainGlobals "_law_big" = some (some (.ref a14)))
    (l_l_big : K.lookup a14 = some ⟨oc14, od14, .func (PySem.W.fnOf "_law_big" "_law_big" (defArgs s_l_big) (defBody s_l_big) (defScope s_l_big) .none kV14 dc14 pm14 an14 cd14 ct14), sl14⟩)
    (c_l_big : PySem.W.codeIn K cd14 "_law_big" = true)
    (k_l_big : PySem.W.keepIn K (.ref a14) = true)
    (a_l_whole : PySem.W.nsIn K mainGlobals "_law_whole" = some (some (.ref a15)))
    (l_l_whole : K.lookup a15 = some ⟨oc15, od15, .func (PySem.W.fnOf "_law_whole" "_law_whole" (defArgs s_l_whole) (defBody s_l_whole) (defScope s_l_whole) .none kV15 dc15 pm15 an15 cd15 ct15), sl15⟩)
    (c_l_whole : PySem.W.codeIn K cd15 "_law_whole" = true)
    (k_l_whole : PySem.W.keepIn K (.ref a15) = true)
    (a_l_lot_like : PySem.W.nsIn K mainGlobals "_law_lot_like" = some (some (.ref a16)))
    (l_l_lot_like : K.lookup a16 = some ⟨oc16, od16, .func (PySem.W.fnOf "_law_lot_like" "_law_lot_like" (defArgs s_l_lot_like) (defBody s_l_lot_like) (defScope s_l_lot_like) .none kV16 dc16 pm16 an16 cd16 ct16), sl16⟩)
    (c_l_lot_like : PySem.W.codeIn K cd16 "_law_lot_like" = true)
    (k_l_lot_like : PySem.W.keepIn K (.ref a16) = true)
    (a_l_serving : PySem.W.nsIn K mainGlobals "_law_serving" = some (some (.ref a17)))
    (l_l_serving : K.lookup a17 = some ⟨oc17, od17, .func (PySem.W.fnOf "_law_serving" "_law_serving" (defArgs s_l_serving) (defBody s_l_serving) (defScope s_l_serving) .none kV17 dc17 pm17 an17 cd17 ct17), sl17⟩)
    (c_l_serving : PySem.W.codeIn K cd17 "_law_serving" = true)
    (k_l_serving : PySem.W.keepIn K (.ref a17) = true)
    (a_l_pool : PySem.W.nsIn K mainGlobals "_law_pool" = some (some (.ref a18)))
    (l_l_pool : K.lookup a18 = some ⟨oc18, od18, .func (PySem.W.fnOf "_law_pool" "_law_pool" (defArgs s_l_pool) (defBody s_l_pool) (defScope s_l_pool) .none kV18 dc18 pm18 an18 cd18 ct18), sl18⟩)
    (c_l_pool : PySem.W.codeIn K cd18 "_law_pool" = true)
    (k_l_pool : PySem.W.keepIn K (.ref a18) = true)
    (a_l_great : PySem.W.nsIn K mainGlobals "_law_great" = some (some (.ref a19)))
    (l_l_great : K.lookup a19 = some ⟨oc19, od19, .func (PySem.W.fnOf "_law_great" "_law_great" (defArgs s_l_great) (defBody s_l_great) (defScope s_l_great) .none kV19 dc19 pm19 an19 cd19 ct19), sl19⟩)
    (c_l_great : PySem.W.codeIn K cd19 "_law_great" = true)
    (k_l_great : PySem.W.keepIn K (.ref a19) = true)
    (a_l_turned : PySem.W.nsIn K mainGlobals "_law_turned" = some (some (.ref a20)))
    (l_l_turned : K.lookup a20 = some ⟨oc20, od20, .func (PySem.W.fnOf "_law_turned" "_law_turned" (defArgs s_l_turned) (defBody s_l_turned) (defScope s_l_turned) .none kV20 dc20 pm20 an20 cd20 ct20), sl20⟩)
    (c_l_turned : PySem.W.codeIn K cd20 "_law_turned" = true)
    (k_l_turned : PySem.W.keepIn K (.ref a20) = true)
    (a_l_few : PySem.W.nsIn K mainGlobals "_law_few" = some (some (.ref a21)))
    (l_l_few : K.lookup a21 = some ⟨oc21, od21, .func (PySem.W.fnOf "_law_few" "_law_few" (defArgs s_l_few) (defBody s_l_few) (defScope s_l_few) .none kV21 dc21 pm21 an21 cd21 ct21), sl21⟩)
    (c_l_few : PySem.W.codeIn K cd21 "_law_few" = true)
    (k_l_few : PySem.W.keepIn K (.ref a21) = true)
    (a_l_odd : PySem.W.nsIn K mainGlobals "_law_odd" = some (some (.ref a22)))
    (l_l_odd : K.lookup a22 = some ⟨oc22, od22, .func (PySem.W.fnOf "_law_odd" "_law_odd" (defArgs s_l_odd) (defBody s_l_odd) (defScope s_l_odd) .none kV22 dc22 pm22 an22 cd22 ct22), sl22⟩)
    (c_l_odd : PySem.W.codeIn K cd22 "_law_odd" = true)
    (k_l_odd : PySem.W.keepIn K (.ref a22) = true)
    (a_l_odd_coin : PySem.W.nsIn K mainGlobals "_law_odd_coin" = some (some (.ref a23)))
    (l_l_odd_coin : K.lookup a23 = some ⟨oc23, od23, .func (PySem.W.fnOf "_law_odd_coin" "_law_odd_coin" (defArgs s_l_odd_coin) (defBody s_l_odd_coin) (defScope s_l_odd_coin) .none kV23 dc23 pm23 an23 cd23 ct23), sl23⟩)
    (c_l_odd_coin : PySem.W.codeIn K cd23 "_law_odd_coin" = true)
    (k_l_odd_coin : PySem.W.keepIn K (.ref a23) = true)
    (a_l_due_rest : PySem.W.nsIn K mainGlobals "_law_due_rest" = some (some (.ref a24)))
    (l_l_due_rest : K.lookup a24 = some ⟨oc24, od24, .func (PySem.W.fnOf "_law_due_rest" "_law_due_rest" (defArgs s_l_due_rest) (defBody s_l_due_rest) (defScope s_l_due_rest) .none kV24 dc24 pm24 an24 cd24 ct24), sl24⟩)
    (c_l_due_rest : PySem.W.codeIn K cd24 "_law_due_rest" = true)
    (k_l_due_rest : PySem.W.keepIn K (.ref a24) = true)
    (a_l_taken : PySem.W.nsIn K mainGlobals "_law_taken" = some (some (.ref a25)))
    (l_l_taken : K.lookup a25 = some ⟨oc25, od25, .func (PySem.W.fnOf "_law_taken" "_law_taken" (defArgs s_l_taken) (defBody s_l_taken) (defScope s_l_taken) .none kV25 dc25 pm25 an25 cd25 ct25), sl25⟩)
    (c_l_taken : PySem.W.codeIn K cd25 "_law_taken" = true)
    (k_l_taken : PySem.W.keepIn K (.ref a25) = true)
    (a_l_refused : PySem.W.nsIn K mainGlobals "_law_refused" = some (some (.ref a26)))
    (l_l_refused : K.lookup a26 = some ⟨oc26, od26, .func (PySem.W.fnOf "_law_refused" "_law_refused" (defArgs s_l_refused) (defBody s_l_refused) (defScope s_l_refused) .none kV26 dc26 pm26 an26 cd26 ct26), sl26⟩)
    (c_l_refused : PySem.W.codeIn K cd26 "_law_refused" = true)
    (k_l_refused : PySem.W.keepIn K (.ref a26) = true)
    (a_l_asked : PySem.W.nsIn K mainGlobals "_law_asked" = some (some (.ref a27)))
    (l_l_asked : K.lookup a27 = some ⟨oc27, od27, .func (PySem.W.fnOf "_law_asked" "_law_asked" (defArgs s_l_asked) (defBody s_l_asked) (defScope s_l_asked) .none kV27 dc27 pm27 an27 cd27 ct27), sl27⟩)
    (c_l_asked : PySem.W.codeIn K cd27 "_law_asked" = true)
    (k_l_asked : PySem.W.keepIn K (.ref a27) = true)
    (a_l_lot_of : PySem.W.nsIn K mainGlobals "_law_lot_of" = some (some (.ref a28)))
    (l_l_lot_of : K.lookup a28 = some ⟨oc28, od28, .func (PySem.W.fnOf "_law_lot_of" "_law_lot_of" (defArgs s_l_lot_of) (defBody s_l_lot_of) (defScope s_l_lot_of) .none kV28 dc28 pm28 an28 cd28 ct28), sl28⟩)
    (c_l_lot_of : PySem.W.codeIn K cd28 "_law_lot_of" = true)
    (k_l_lot_of : PySem.W.keepIn K (.ref a28) = true)
    (a_law : PySem.W.nsIn K mainGlobals "law" = some (some (.ref a29)))
    (l_law : K.lookup a29 = some ⟨oc29, od29, .func (PySem.W.fnOf "law" "law" (defArgs s_law) (defBody s_law) (defScope s_law) .none kV29 dc29 pm29 an29 cd29 ct29), sl29⟩)
    (c_law : PySem.W.codeIn K cd29 "law" = true)
    (k_law : PySem.W.keepIn K (.ref a29) = true)
    (v_MOST_COINS : PySem.W.nsIn K mainGlobals "MOST_COINS" = some (some (.int 12 tk_MOST_COINS)))
    (v_GREATEST_COIN : PySem.W.nsIn K mainGlobals "GREATEST_COIN" = some (some (.int 1000000000 tk_GREATEST_COIN)))
    (n_isinstance : PySem.W.nsIn K mainGlobals "isinstance" = some none)
    (n_int : PySem.W.nsIn K mainGlobals "int" = some none)
    (n_bool : PySem.W.nsIn K mainGlobals "bool" = some none)
    (n_list : PySem.W.nsIn K mainGlobals "list" = some none)
    (n_tuple : PySem.W.nsIn K mainGlobals "tuple" = some none)
    (n_len : PySem.W.nsIn K mainGlobals "len" = some none)
    (n_enumerate : PySem.W.nsIn K mainGlobals "enumerate" = some none)
    (n_sorted : PySem.W.nsIn K mainGlobals "sorted" = some none)
    (n_all : PySem.W.nsIn K mainGlobals "all" = some none)
    (n_abs : PySem.W.nsIn K mainGlobals "abs" = some none)
    (n_range : PySem.W.nsIn K mainGlobals "range" = some none)
    (n_sum : PySem.W.nsIn K mainGlobals "sum" = some none)
    (n_max : PySem.W.nsIn K mainGlobals "max" = some none)
    (k_BadPool : PySem.W.keepIn K (.ref cBadPool) = true)
    (e_BadPool : PySem.W.subIn K (.ref cBadPool) (.type "BaseException") = some true)
    (t_BadPool : PySem.W.typeIn K (.ref cBadPool) = some (.type "type"))
    (i_BadPool : PySem.W.isClsIn K cBadPool = true)
    (x_BadPool : K.lookup cBadPool = some (excClassObj nm_BadPool q_BadPool cBadPool N_BadPool bs_BadPool [.ref B_BadPool, .type "ValueError", .type "Exception", .type "BaseException", .type "object"] true sn_BadPool sub_BadPool ab_BadPool col_BadPool dd_BadPool m0_BadPool m1_BadPool m2_BadPool m3_BadPool m5_BadPool "ValueError.__new__"))
    (s_BadPool : PySem.W.findIn K (.ref cBadPool) "__setattr__" = some (some (.builtin "object.__setattr__")))
    (ga_BadPool : PySem.W.findIn K (.ref cBadPool) "__getattribute__" = some (some (.builtin "BaseException.__getattribute__")))
    (gg_BadPool : PySem.W.findIn K (.ref cBadPool) "__getattr__" = some none)
    (hd_BadPool : PySem.W.hasDictIn K cBadPool = true)
    (f_BadPool_place : PySem.W.findIn K (.ref cBadPool) "place" = some none)
    (f_BadPool_what : PySem.W.findIn K (.ref cBadPool) "what" = some none)
    (k_BadLot : PySem.W.keepIn K (.ref cBadLot) = true)
    (e_BadLot : PySem.W.subIn K (.ref cBadLot) (.type "BaseException") = some true)
    (t_BadLot : PySem.W.typeIn K (.ref cBadLot) = some (.type "type"))
    (i_BadLot : PySem.W.isClsIn K cBadLot = true)
    (x_BadLot : PySem.W.excIn K cBadLot [.type "ValueError", .type "Exception", .type "BaseException", .type "object"] "ValueError.__new__" = true)
    (m_BadPool_BadPool : PySem.W.subIn K (.ref cBadPool) (.ref cBadPool) = some true)
    (m_BadPool_BadLot : PySem.W.subIn K (.ref cBadPool) (.ref cBadLot) = some false)
    (m_BadLot_BadPool : PySem.W.subIn K (.ref cBadLot) (.ref cBadPool) = some false)
    (m_BadLot_BadLot : PySem.W.subIn K (.ref cBadLot) (.ref cBadLot) = some true) :
    ∃ fd : FuncData, (∀ (s : Shared) (v : Value), BindsTo s fd ⟨[v], []⟩ [("_law_script", v)]) ∧ ∀ base : Heap, K.In base → base.Ns mainGlobals mg → FnOk l.prog w K mg base CX0 7 fa fd ["_law_script"] (sp_law K) := by
  have e := hfa.symm.trans (PySem.W.mg_of X G a_law)
  cases e
  have F1 := fun_mk (st := s_i_BadPool) l_i_BadPool c_i_BadPool k_i_BadPool
  have b1 := F1.binds (ps := ps_i_BadPool) fun _ _ _ _ _ _ us hl => match us, hl with | [_, _, _], _ => rfl
  have F2 := fun_mk (st := s_is_number) l_is_number c_is_number k_is_number
  have b2 := F2.binds (ps := ps_is_number) fun _ _ _ _ _ _ us hl => match us, hl with | [_], _ => rfl
  have F3 := fun_mk (st := s_is_whole) l_is_whole c_is_whole k_is_whole
  have b3 := F3.binds (ps := ps_is_whole) fun _ _ _ _ _ _ us hl => match us, hl with | [_, _, _], _ => rfl
  have F4 := fun_mk (st := s_is_row) l_is_row c_is_row k_is_row
  have b4 := F4.binds (ps := ps_is_row) fun _ _ _ _ _ _ us hl => match us, hl with | [_, _, _], _ => rfl
  have F5 := fun_mk (st := s_check_pool) l_check_pool c_check_pool k_check_pool
  have b5 := F5.binds (ps := ps_check_pool) fun _ _ _ _ _ _ us hl => match us, hl with | [_], _ => rfl
  have F6 := fun_mk (st := s_has_lot) l_has_lot c_has_lot k_has_lot
  have b6 := F6.binds (ps := ps_has_lot) fun _ _ _ _ _ _ us hl => match us, hl with | [_, _], _ => rfl
  have F7 := fun_mk (st := s_is_within) l_is_within c_is_within k_is_within
  have b7 := F7.binds (ps := ps_is_within) fun _ _ _ _ _ _ us hl => match us, hl with | [_, _], _ => rfl
  have F8 := fun_mk (st := s_less_lot) l_less_lot c_less_lot k_less_lot
  have b8 := F8.binds (ps := ps_less_lot) fun _ _ _ _ _ _ us hl => match us, hl with | [_, _], _ => rfl
  have F9 := fun_mk (st := s_rest_of) l_rest_of c_rest_of k_rest_of
  have b9 := F9.binds (ps := ps_rest_of) fun _ _ _ _ _ _ us hl => match us, hl with | [_, _], _ => rfl
  have F10 := fun_mk (st := s_joined_pools) l_joined_pools c_joined_pools k_joined_pools
  have b10 := F10.binds (ps := ps_joined_pools) fun _ _ _ _ _ _ us hl => match us, hl with | [_, _], _ => rfl
  have F11 := fun_mk (st := s_l_mix) l_l_mix c_l_mix k_l_mix
  have b11 := F11.binds (ps := ps_l_mix) fun _ _ _ _ _ _ us hl => match us, hl with | [_, _], _ => rfl
  have F12 := fun_mk (st := s_l_hand) l_l_hand c_l_hand k_l_hand
  have b12 := F12.binds (ps := ps_l_hand) fun _ _ _ _ _ _ us hl => match us, hl with | [_], _ => rfl
  have F13 := fun_mk (st := s_l_draw) l_l_draw c_l_draw k_l_draw
  have b13 := F13.binds (ps := ps_l_draw) fun _ _ _ _ _ _ us hl => match us, hl with | [_, _], _ => rfl
  have F14 := fun_mk (st := s_l_big) l_l_big c_l_big k_l_big
  have b14 := F14.binds (ps := ps_l_big) fun _ _ _ _ _ _ us hl => match us, hl with | [_, _], _ => rfl
  have F15 := fun_mk (st := s_l_whole) l_l_whole c_l_whole k_l_whole
  have b15 := F15.binds (ps := ps_l_whole) fun _ _ _ _ _ _ us hl => match us, hl with | [_], _ => rfl
  have F16 := fun_mk (st := s_l_lot_like) l_l_lot_like c_l_lot_like k_l_lot_like
  have b16 := F16.binds (ps := ps_l_lot_like) fun _ _ _ _ _ _ us hl => match us, hl with | [_], _ => rfl
  have F17 := fun_mk (st := s_l_serving) l_l_serving c_l_serving k_l_serving
  have b17 := F17.binds (ps := ps_l_serving) fun _ _ _ _ _ _ us hl => match us, hl with | [_, _, _], _ => rfl
  have F18 := fun_mk (st := s_l_pool) l_l_pool c_l_pool k_l_pool
  have b18 := F18.binds (ps := ps_l_pool) fun _ _ _ _ _ _ us hl => match us, hl with | [_, _, _], _ => rfl
  have F19 := fun_mk (st := s_l_great) l_l_great c_l_great k_l_great
  have b19 := F19.binds (ps := ps_l_great) fun _ _ _ _ _ _ us hl => match us, hl with | [_, _], _ => rfl
  have F20 := fun_mk (st := s_l_turned) l_l_turned c_l_turned k_l_turned
  have b20 := F20.binds (ps := ps_l_turned) fun _ _ _ _ _ _ us hl => match us, hl with | [_, _], _ => rfl
  have F21 := fun_mk (st := s_l_few) l_l_few c_l_few k_l_few
  have b21 := F21.binds (ps := ps_l_few) fun _ _ _ _ _ _ us hl => match us, hl with | [_], _ => rfl
  have F22 := fun_mk (st := s_l_odd) l_l_odd c_l_odd k_l_odd
  have b22 := F22.binds (ps := ps_l_odd) fun _ _ _ _ _ _ us hl => match us, hl with | [_], _ => rfl
  have F23 := fun_mk (st := s_l_odd_coin) l_l_odd_coin c_l_odd_coin k_l_odd_coin
  have b23 := F23.binds (ps := ps_l_odd_coin) fun _ _ _ _ _ _ us hl => match us, hl with | [_], _ => rfl
  have F24 := fun_mk (st := s_l_due_rest) l_l_due_rest c_l_due_rest k_l_due_rest
  have b24 := F24.binds (ps := ps_l_due_rest) fun _ _ _ _ _ _ us hl => match us, hl with | [_, _], _ => rfl
  have F25 := fun_mk (st := s_l_taken) l_l_taken c_l_taken k_l_taken
  have b25 := F25.binds (ps := ps_l_taken) fun _ _ _ _ _ _ us hl => match us, hl with | [_, _], _ => rfl
  have F26 := fun_mk (st := s_l_refused) l_l_refused c_l_refused k_l_refused
  have b26 := F26.binds (ps := ps_l_refused) fun _ _ _ _ _ _ us hl => match us, hl with | [_, _, _], _ => rfl
  have F27 := fun_mk (st := s_l_asked) l_l_asked c_l_asked k_l_asked
  have b27 := F27.binds (ps := ps_l_asked) fun _ _ _ _ _ _ us hl => match us, hl with | [_, _, _], _ => rfl
  have F28 := fun_mk (st := s_l_lot_of) l_l_lot_of c_l_lot_of k_l_lot_of
  have b28 := F28.binds (ps := ps_l_lot_of) fun _ _ _ _ _ _ us hl => match us, hl with | [_, _], _ => rfl
  have F29 := fun_mk (st := s_law) l_law c_law k_law
  have b29 := F29.binds (ps := ps_law) fun _ _ _ _ _ _ us hl => match us, hl with | [_], _ => rfl
  have T : Txt K mg cBadPool cBadLot :=
    { d_is_number := ⟨_, _, F2, PySem.W.mg_of X G a_is_number, b2⟩,
      d_is_whole := ⟨_, _, F3, PySem.W.mg_of X G a_is_whole, b3⟩,
      d_is_row := ⟨_, _, F4, PySem.W.mg_of X G a_is_row, b4⟩,
      d_check_pool := ⟨_, _, F5, PySem.W.mg_of X G a_check_pool, b5⟩,
      d_has_lot := ⟨_, _, F6, PySem.W.mg_of X G a_has_lot, b6⟩,
      d_is_within := ⟨_, _, F7, PySem.W.mg_of X G a_is_within, b7⟩,
      d_less_lot := ⟨_, _, F8, PySem.W.mg_of X G a_less_lot, b8⟩,
      d_rest_of := ⟨_, _, F9, PySem.W.mg_of X G a_rest_of, b9⟩,
      d_joined_pools := ⟨_, _, F10, PySem.W.mg_of X G a_joined_pools, b10⟩,
      d_l_mix := ⟨_, _, F11, PySem.W.mg_of X G a_l_mix, b11⟩,
      d_l_hand := ⟨_, _, F12, PySem.W.mg_of X G a_l_hand, b12⟩,
      d_l_draw := ⟨_, _, F13, PySem.W.mg_of X G a_l_draw, b13⟩,
      d_l_big := ⟨_, _, F14, PySem.W.mg_of X G a_l_big, b14⟩,
      d_l_whole := ⟨_, _, F15, PySem.W.mg_of X G a_l_whole, b15⟩,
      d_l_lot_like := ⟨_, _, F16, PySem.W.mg_of X G a_l_lot_like, b16⟩,
      d_l_serving := ⟨_, _, F17, PySem.W.mg_of X G a_l_serving, b17⟩,
      d_l_pool := ⟨_, _, F18, PySem.W.mg_of X G a_l_pool, b18⟩,
      d_l_great := ⟨_, _, F19, PySem.W.mg_of X G a_l_great, b19⟩,
      d_l_turned := ⟨_, _, F20, PySem.W.mg_of X G a_l_turned, b20⟩,
      d_l_few := ⟨_, _, F21, PySem.W.mg_of X G a_l_few, b21⟩,
      d_l_odd := ⟨_, _, F22, PySem.W.mg_of X G a_l_odd, b22⟩,
      d_l_odd_coin := ⟨_, _, F23, PySem.W.mg_of X G a_l_odd_coin, b23⟩,
      d_l_due_rest := ⟨_, _, F24, PySem.W.mg_of X G a_l_due_rest, b24⟩,
      d_l_taken := ⟨_, _, F25, PySem.W.mg_of X G a_l_taken, b25⟩,
      d_l_refused := ⟨_, _, F26, PySem.W.mg_of X G a_l_refused, b26⟩,
      d_l_asked := ⟨_, _, F27, PySem.W.mg_of X G a_l_asked, b27⟩,
      d_l_lot_of := ⟨_, _, F28, PySem.W.mg_of X G a_l_lot_of, b28⟩,
      d_law := ⟨_, _, F29, PySem.W.mg_of X G a_law, b29⟩,
      c_MOST_COINS := ⟨_, PySem.W.mg_of X G v_MOST_COINS, ⟨_, rfl⟩⟩,
      c_GREATEST_COIN := ⟨_, PySem.W.mg_of X G v_GREATEST_COIN, ⟨_, rfl⟩⟩,
      n_isinstance := PySem.W.mg_none_of X G n_isinstance,
      n_int := PySem.W.mg_none_of X G n_int,
      n_bool := PySem.W.mg_none_of X G n_bool,
      n_list := PySem.W.mg_none_of X G n_list,
      n_tuple := PySem.W.mg_none_of X G n_tuple,
      n_len := PySem.W.mg_none_of X G n_len,
      n_enumerate := PySem.W.mg_none_of X G n_enumerate,
      n_sorted := PySem.W.mg_none_of X G n_sorted,
      n_all := PySem.W.mg_none_of X G n_all,
      n_abs := PySem.W.mg_none_of X G n_abs,
      n_range := PySem.W.mg_none_of X G n_range,
      n_sum := PySem.W.mg_none_of X G n_sum,
      n_max := PySem.W.mg_none_of X G n_max,
      y_BadPool := ⟨PySem.W.mg_of X G g_BadPool, ⟨⟨_, _, _, _, _, _, _, _, _, _, _, _, _, _, _, x_BadPool, (show PySem.HandSPX.refsVE [.type "ValueError", .type "Exception", .type "BaseException", .type "object"] = true by decide +kernel)⟩, s_BadPool, e_BadPool, t_BadPool, k_BadPool⟩, ⟨_, _, F1, b1, a_i_BadPool, t_i_BadPool⟩⟩,
      x_BadPool := ⟨ga_BadPool, gg_BadPool, e_BadPool, hd_BadPool⟩,
      f_BadPool_place := f_BadPool_place,
      f_BadPool_what := f_BadPool_what,
      y_BadLot := ⟨PySem.W.mg_of X G g_BadLot, x_BadLot, k_BadLot, e_BadLot, t_BadLot⟩,
      m_BadPool_BadPool := exm_mk e_BadPool i_BadPool t_BadPool m_BadPool_BadPool,
      m_BadPool_BadLot := exm_mk e_BadLot i_BadLot t_BadLot m_BadPool_BadLot,
      m_BadLot_BadPool := exm_mk e_BadPool i_BadPool t_BadPool m_BadLot_BadPool,
      m_BadLot_BadLot := exm_mk e_BadLot i_BadLot t_BadLot m_BadLot_BadLot }
  exact ⟨_, fun s v => .of_eq rfl, fun base _ _ => ok_law F29 T⟩
theorem walk {l : PySem.W.OpenLaw} {q : Program} {loose : List Str} {XP : (Str → Option Value) → Heap → Prop} {YP : World → Heap → Prop} {d : DefRec} {K : Params → PySem.W.Frag} (hn : l.most = some 63) (hdf : d.params.defaults = [])
    (hY : ∀ (w : World) (h : Heap), YP w h → (K w.params).In h)
    (F : ∀ (w : World) (mg : Str → Option Value) (fa : Addr) (h : Heap), (K w.params).In h → h.Ns mainGlobals mg → mg d.name = some (.ref fa) →
      ∃ fd : FuncData, (∀ (s : Shared) (u : Value), BindsTo s fd ⟨[u], []⟩ [("_law_script", u)]) ∧ ∀ base : Heap, (K w.params).In base → base.Ns mainGlobals mg → FnOk l.prog w (K w.params) mg base CX0 7 fa fd ["_law_script"] (sp_law (K w.params))) :
    PySem.W.WalkO q loose XP YP l.row.toRowW d [] (fun f vs => PySem.call f vs) :=
  L2.walk_of (n := 63) (k := 7) (x := "_law_script") (CX := fun _ => CX0) (sp := fun w => sp_law (K w.params)) hn (by decide) hdf ⟨rfl, by decide, by decide⟩ hY F (fun _ _ a ns hl _ hS => ⟨a, ns, rfl, hS, hl, fun _ => rfl⟩) fun _ _ _ _ _ z => z
end My
open PySem PySem.W PyProof.Rows
set_option maxRecDepth 100000 in
set_option maxHeartbeats 0 in
theorem PySem.Challenge.cw_anyworths_k04_lots_taken_and_pools_joine_holds : PySem.Challenge.rw_anyworths_k04_lots_taken_and_pools_joine.Holds := by
  w_on; o_law; k_head; (case hw => w_witness2)
  k_fill
  refine My.walk (l := PySem.Challenge.rw_anyworths_k04_lots_taken_and_pools_joine) rfl rfl (fun w h Y => PySem.W.kIn_of Y) ?F
  case F =>
    intro w mg fa h KX G hmg
    refine' My.all_mk KX G hmg ?g_BadPool ?g_BadLot ?a_i_BadPool ?l_i_BadPool ?c_i_BadPool ?k_i_BadPool ?t_i_BadPool ?a_is_number ?l_is_number ?c_is_number ?k_is_number ?a_is_whole ?l_is_whole ?c_is_whole ?k_is_whole ?a_is_row ?l_is_row ?c_is_row ?k_is_row ?a_check_pool ?l_check_pool ?c_check_pool ?k_check_pool ?a_has_lot ?l_has_lot ?c_has_lot ?k_has_lot ?a_is_within ?l_is_within ?c_is_within ?k_is_within ?a_less_lot ?l_less_lot ?c_less_lot ?k_less_lot ?a_rest_of ?l_rest_of ?c_rest_of ?k_rest_of ?a_joined_pools ?l_joined_pools ?c_joined_pools ?k_joined_pools ?a_l_mix ?l_l_mix ?c_l_mix ?k_l_mix ?a_l_hand ?l_l_hand ?c_l_hand ?k_l_hand ?a_l_draw ?l_l_draw ?c_l_draw ?k_l_draw ?a_l_big ?l_l_big ?c_l_big ?k_l_big ?a_l_whole ?l_l_whole ?c_l_whole ?k_l_whole ?a_l_lot_like ?l_l_lot_like ?c_l_lot_like ?k_l_lot_like ?a_l_serving ?l_l_serving ?c_l_serving ?k_l_serving ?a_l_pool ?l_l_pool ?c_l_pool ?k_l_pool ?a_l_great ?l_l_great ?c_l_great ?k_l_great ?a_l_turned ?l_l_turned ?c_l_turned ?k_l_turned ?a_l_few ?l_l_few ?c_l_few ?k_l_few ?a_l_odd ?l_l_odd ?c_l_odd ?k_l_odd ?a_l_odd_coin ?l_l_odd_coin ?c_l_odd_coin ?k_l_odd_coin ?a_l_due_rest ?l_l_due_rest ?c_l_due_rest ?k_l_due_rest ?a_l_taken ?l_l_taken ?c_l_taken ?k_l_taken ?a_l_refused ?l_l_refused ?c_l_refused ?k_l_refused ?a_l_asked ?l_l_asked ?c_l_asked ?k_l_asked ?a_l_lot_of ?l_l_lot_of ?c_l_lot_of ?k_l_lot_of ?a_law ?l_law ?c_law ?k_law ?v_MOST_COINS ?v_GREATEST_COIN ?n_isinstance ?n_int ?n_bool ?n_list ?n_tuple ?n_len ?n_enumerate ?n_sorted ?n_all ?n_abs ?n_range ?n_sum ?n_max ?k_BadPool ?e_BadPool ?t_BadPool ?i_BadPool ?x_BadPool ?s_BadPool ?ga_BadPool ?gg_BadPool ?hd_BadPool ?f_BadPool_place ?f_BadPool_what ?k_BadLot ?e_BadLot ?t_BadLot ?i_BadLot ?x_BadLot ?m_BadPool_BadPool ?m_BadPool_BadLot ?m_BadLot_BadPool ?m_BadLot_BadLot
    (case g_BadPool => k_is)
    (case g_BadLot => k_is)
    (case a_i_BadPool => k_is)
    (case l_i_BadPool => k_is)
    (case c_i_BadPool => k_is)
    (case k_i_BadPool => k_is)
    (case t_i_BadPool => k_is)
    (case a_is_number => k_is)
    (case l_is_number => k_is)
    (case c_is_number => k_is)
    (case k_is_number => k_is)
    (case a_is_whole => k_is)
    (case l_is_whole => k_is)
    (case c_is_whole => k_is)
    (case k_is_whole => k_is)
    (case a_is_row => k_is)
    (case l_is_row => k_is)
    (case c_is_row => k_is)
    (case k_is_row => k_is)
    (case a_check_pool => k_is)
    (case l_check_pool => k_is)
    (case c_check_pool => k_is)
    (case k_check_pool => k_is)
    (case a_has_lot => k_is)
    (case l_has_lot => k_is)
    (case c_has_lot => k_is)
    (case k_has_lot => k_is)
    (case a_is_within => k_is)
    (case l_is_within => k_is)
    (case c_is_within => k_is)
    (case k_is_within => k_is)
    (case a_less_lot => k_is)
    (case l_less_lot => k_is)
    (case c_less_lot => k_is)
    (case k_less_lot => k_is)
    (case a_rest_of => k_is)
    (case l_rest_of => k_is)
    (case c_rest_of => k_is)
    (case k_rest_of => k_is)
    (case a_joined_pools => k_is)
    (case l_joined_pools => k_is)
    (case c_joined_pools => k_is)
    (case k_joined_pools => k_is)
    (case a_l_mix => k_is)
    (case l_l_mix => k_is)
    (case c_l_mix => k_is)
    (case k_l_mix => k_is)
    (case a_l_hand => k_is)
    (case l_l_hand => k_is)
    (case c_l_hand => k_is)
    (case k_l_hand => k_is)
    (case a_l_draw => k_is)
    (case l_l_draw => k_is)
    (case c_l_draw => k_is)
    (case k_l_draw => k_is)
    (case a_l_big => k_is)
    (case l_l_big => k_is)
    (case c_l_big => k_is)
    (case k_l_big => k_is)
    (case a_l_whole => k_is)
    (case l_l_whole => k_is)
    (case c_l_whole => k_is)
    (case k_l_whole => k_is)
    (case a_l_lot_like => k_is)
    (case l_l_lot_like => k_is)
    (case c_l_lot_like => k_is)
    (case k_l_lot_like => k_is)
    (case a_l_serving => k_is)
    (case l_l_serving => k_is)
    (case c_l_serving => k_is)
    (case k_l_serving => k_is)
    (case a_l_pool => k_is)
    (case l_l_pool => k_is)
    (case c_l_pool => k_is)
    (case k_l_pool => k_is)
    (case a_l_great => k_is)
    (case l_l_great => k_is)
    (case c_l_great => k_is)
    (case k_l_great => k_is)
    (case a_l_turned => k_is)
    (case l_l_turned => k_is)
    (case c_l_turned => k_is)
    (case k_l_turned => k_is)
    (case a_l_few => k_is)
    (case l_l_few => k_is)
    (case c_l_few => k_is)
    (case k_l_few => k_is)
    (case a_l_odd => k_is)
    (case l_l_odd => k_is)
    (case c_l_odd => k_is)
    (case k_l_odd => k_is)
    (case a_l_odd_coin => k_is)
    (case l_l_odd_coin => k_is)
    (case c_l_odd_coin => k_is)
    (case k_l_odd_coin => k_is)
    (case a_l_due_rest => k_is)
    (case l_l_due_rest => k_is)
    (case c_l_due_rest => k_is)
    (case k_l_due_rest => k_is)
    (case a_l_taken => k_is)
    (case l_l_taken => k_is)
    (case c_l_taken => k_is)
    (case k_l_taken => k_is)
    (case a_l_refused => k_is)
    (case l_l_refused => k_is)
    (case c_l_refused => k_is)
    (case k_l_refused => k_is)
    (case a_l_asked => k_is)
    (case l_l_asked => k_is)
    (case c_l_asked => k_is)
    (case k_l_asked => k_is)
    (case a_l_lot_of => k_is)
    (case l_l_lot_of => k_is)
    (case c_l_lot_of => k_is)
    (case k_l_lot_of => k_is)
    (case a_law => k_is)
    (case l_law => k_is)
    (case c_law => k_is)
    (case k_law => k_is)
    (case v_MOST_COINS => k_is)
    (case v_GREATEST_COIN => k_is)
    (case n_isinstance => k_is)
    (case n_int => k_is)
    (case n_bool => k_is)
    (case n_list => k_is)
    (case n_tuple => k_is)
    (case n_len => k_is)
    (case n_enumerate => k_is)
    (case n_sorted => k_is)
    (case n_all => k_is)
    (case n_abs => k_is)
    (case n_range => k_is)
    (case n_sum => k_is)
    (case n_max => k_is)
    (case k_BadPool => k_is)
    (case e_BadPool => k_is)
    (case t_BadPool => k_is)
    (case i_BadPool => k_is)
    (case x_BadPool => k_is)
    (case s_BadPool => k_is)
    (case ga_BadPool => k_is)
    (case gg_BadPool => k_is)
    (case hd_BadPool => k_is)
    (case f_BadPool_place => k_is)
    (case f_BadPool_what => k_is)
    (case k_BadLot => k_is)
    (case e_BadLot => k_is)
    (case t_BadLot => k_is)
    (case i_BadLot => k_is)
    (case x_BadLot => k_exc)
    (case m_BadPool_BadPool => first | rfl | k_is)
    (case m_BadPool_BadLot => k_is)
    (case m_BadLot_BadPool => k_is)
    (case m_BadLot_BadLot => first | rfl | k_is)

