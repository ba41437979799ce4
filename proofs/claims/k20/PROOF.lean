import PyProof.Rows.All
import Wide.All
import OpenK.AllK
import Wide.FinOn
import PyProof.EqAt
import PyProof.EqKinds
import PyProof.TupleCall
import Open.SpecLaws
import KE.OsGo
import HandS.ForMost
import HandS.ForExc
import HandS.TryMany
import HandS.ExcInit
import HandS.ExcField
import HandS.Wide
import HandS.IsInst
import HandS.Defaults
import HandS.Small
import HandS.SlotsOwn
import HandS.SetFor
import KE.GoesMore
import KE.GoesEnum
import KE.SortCalls
import PyProof.InstEq
import PyProof.TupleOfSeq
import PyProof.SumWalkG
import PyProof.WalkInts
import PyProof.Rows.SortShellAny
import PyProof.Rows.SortWalk
import KE.OsSort
import OpenK.KEqL
import HandS.TupAny
import HandS.TupMul
import KE.KFind
import HandS.Strs
import HandS.CallSlots
import HandS.ExcOwn
import HandS.Zip
import HandS.WordsExc
import HandS.ExcCtx
import HandS.ExcInitHot
import HandS.SuiteRaise
import HandS.RaiseFrom
import PyProof.P3Eq
import KE.DataMinMax
import HandS.SortKw
import PyProof.Rows.ReprR
import HandS.Ends
import PyProof.Rows.ReprShort
import PyProof.Rows.RegFStrParts
import PySem.Challenge.RW_anyworths_k20_whole_few_unlike_worths_an
set_option Elab.async false
set_option linter.all false
set_option maxRecDepth 100000
set_option maxHeartbeats 4000000
/-! ## The general part: several except clauses with and without a name, own errors, defs as they stand behind the top -/
namespace Gen
open PySem PySem.Spec PyProof.Rows L2
/-- a suite's reading: the exception's place, its class, its dict -/
abbrev SU := Addr → Value → Option Addr → TS
/-- what follows a suite that has named its exception: the name's slot is empty again -/
def Ends.off (D : Ends) (i : Nat) : Ends :=
  { nx := fun z h => D.nx (z.set i none) h, rt := D.rt, bk := fun z h => D.bk (z.set i none) h, ct := fun z h => D.ct (z.set i none) h }
def suiteOf (D : Ends) (o : Option Nat) (t : SU) (a : Addr) (c : Value) (d : Option Addr) (z : L2.St) (h : Hp) : Prop :=
  match o with
  | none => t a c d D z h
  | some i => t a c d (Ends.off D i) (z.set i (some (.ref a))) h
/-- what the clauses wish, one behind the other -/
def wMix (K : PySem.W.Frag) (Wo : WX) (D : Ends) : List (Value × Option Nat × SU) → WX
  | [] => Wo
  | (c, o, t) :: rest => fun k d z h => ∃ yes, PySem.W.exmOne K k c = some yes ∧ (yes = true → ∀ a, h a = none → suiteOf D o t a k d z h) ∧ (yes = false → wMix K Wo D rest k d z h)
inductive HdsX (X : Cx) : List ExceptHandler → List (Value × Option Nat × SU) → Prop
  | nil : HdsX X [] []
  | one {x : Str} {c : Value} {t : SU} {b : Stmt} {bs : List Stmt} {p1 p2 : Pos} {hs : List ExceptHandler} {l : List (Value × Option Nat × SU)} (nm : Names X x c)
      (su : ∀ (a : Addr) (oe : Obj) (k : Value) (d : Option Addr) (pn : List (Addr × Obj)), Zc k d oe → (∃ fs, oe.data = .fields fs) → PSs (X.suite a ((a, oe) :: pn)) (b :: bs) (t a k d))
      (r : HdsX X hs l) : HdsX X (.ExceptHandler (some (.Name x p1)) none (b :: bs) p2 :: hs) ((c, none, t) :: l)
  | asn {i : Nat} {n x : Str} {c : Value} {t : SU} {b : Stmt} {bs : List Stmt} {p1 p2 : Pos} {hs : List ExceptHandler} {l : List (Value × Option Nat × SU)} (nm : Names X x c)
      (nd : X.N.Nodup) (ni : X.N[i]? = some n) (nl : X.env.kindOf n = some .local)
      (su : ∀ (a : Addr) (oe : Obj) (k : Value) (d : Option Addr) (pn : List (Addr × Obj)), Zc k d oe → (∃ fs, oe.data = .fields fs) → PSs (X.suite a ((a, oe) :: pn)) (b :: bs) (t a k d))
      (r : HdsX X hs l) : HdsX X (.ExceptHandler (some (.Name x p1)) (some n) (b :: bs) p2 :: hs) ((c, some i, t) :: l)
section
variable {X : Cx} {body : List Stmt} {h1 : ExceptHandler} {hs : List ExceptHandler} {l : List (Value × Option Nat × SU)} {pos : Pos} {tb : WX → TS} {Wo : WX}
theorem ps_try_mix (est : X.stack = X.env :: X.outer) (efr : X.env.frame = some X.env.locals) (tkO : Takes X Wo)
    (hb : ∀ (W : WX) (pn : List (Addr × Obj)) (xe : Value → Shared → Prop), Takes (X.tr pn xe) W → PassesOwn (model X.prog X.w) X.A X.env xe → PSs (X.tr pn xe) body (tb W))
    (hh : HdsX X (h1 :: hs) l) : PS X (.Try body (h1 :: hs) [] [] pos) (fun D z h => tb (wMix X.K Wo D l) D z h) := by
  refine ⟨fun pins s z h D I red => ?_⟩
  have good := I.ok
  have efs : X.A.frames = some (X.env :: X.outer) := good.frames.trans (congrArg some est)
  refine wpAny_Try_except (wpAny_mono ((hb (wMix X.K Wo D l) (X.pn ++ pins) (fun e u1 => wpAny (model X.prog X.w) X.A (noteFrame e X.env) (fun _ u2 => wpAny (model X.prog X.w) X.A (setFlight e none) (fun _ u3 =>
    wpAny (model X.prog X.w) X.A (handleBy e X.env (h1 :: hs)) (SP X pins D) X.xe u3) X.xe u2) X.xe u1) (fun u u' air => ?_) PassesOwn.looking).run [] s z h D (I.toTry _) red) (fun fl u1 sp1 => ?_) (fun e u1 q => q))
  · obtain ⟨a, B, sI, pins2, z2, g2, k, d, rfl, J0, nb, up, sky0, na, os, ag, wish⟩ := air
    have J : Inv X pins z2 g2 sI := J0.ofTry good
    have sky : Sky B (X.env :: X.outer) a (Zc k d) X.env.locals u'.heap := est ▸ sky0
    show wpAny (model X.prog X.w) X.A (noteFrame (.ref a) X.env) _ _ _
    refine Sky.land Zc.steady efs efr sky fun hp3 fl3 up3 => ?_
    have J3 : Inv X pins z2 g2 { u' with heap := hp3 } := J.landed nb fl3.1 (up.trans up3) os ag
    obtain ⟨o3, fs3, e3, zc3, d3⟩ := fl3.there
    have offFr : ∀ {hp : Heap} {o : Obj} {fs : Array Value}, hp.FunFrames B (X.env :: X.outer) → hp.get? a = some o → o.data = .fields fs → a ∉ frs (X.env :: X.outer) := fun {hp o fs} ff eo dd hm => by
      obtain ⟨_, o', eo', nf⟩ := ff.mem hm
      cases eo.symm.trans eo'
      exact nf _ dd
    have nfr := offFr fl3.2.2.1 e3 d3
    have nL : a ≠ X.env.locals := fun q => nfr (List.mem_filterMap.mpr ⟨X.env, List.mem_cons_self, efr.trans (congrArg some q.symm)⟩)
    have nF : a ∉ X.fs := fun hm => by
      obtain ⟨en, hen, q⟩ := List.mem_filterMap.mp hm
      exact nfr (List.mem_filterMap.mpr ⟨en, List.mem_cons_of_mem _ hen, q⟩)
    have S3 := J3.suite e3 d3 na nL nF
    have looksT : PySem.W.Looks (model X.prog X.w) hp3 (typeOf (.ref a)) k := fun A Q E s kp q => wpAny_typeOf_ref (kp _ _ e3) (by rw [zc3.1]; exact q)
    have named : ∀ {x : Str} {c : Value} {np : Pos} {Q : Value → Shared → Prop} {E : Value → Shared → Prop}, Names X x c → Q c { u' with heap := hp3 } →
        wpAny (model X.prog X.w) (X.A.mark (some (.ref a))) (eval (.Name x np) X.env) Q E { u' with heap := hp3 } := fun {x c np Q E} nm q => by
      rcases nm with ⟨hg, hd, hm | ⟨hm, hv, hx⟩⟩
      · exact ld_glob (X := X.suite a ((a, o3) :: (X.pn ++ pins))) S3 hg hm q hd
      · exact ld_blt (X := X.suite a ((a, o3) :: (X.pn ++ pins))) S3 hg hm hv q hx hd
    have go : ∀ {hs' : List ExceptHandler} {l' : List (Value × Option Nat × SU)}, HdsX X hs' l' → wMix X.K Wo D l' k d z2 g2 →
        wpAny (model X.prog X.w) X.A (handleBy (.ref a) X.env hs') (SP X pins D) X.xe { u' with heap := hp3 } := by
      intro hs' l' hk
      induction hk with
      | nil =>
        intro wish
        refine wpAny_handleBy_nil ?_
        obtain ⟨q1, q2, q3, oe, fs, T, oT, ts', eo, zc, dd, one, more⟩ := id fl3
        unfold PySem.passOn
        refine wpAny_bind (wpAny_field eo dd one ?_)
        rw [if_neg (show ¬ ((Value.ref T == Value.none) = true) by simp)]
        have away : wpAny (model X.prog X.w) X.A (setFlight (.ref a) X.env.frame) (fun _ u4 => wpAny (model X.prog X.w) X.A (throw (.ref a) : Sem Flow) (SP X pins D) X.xe u4) X.xe { u' with heap := hp3 } := by
          rw [efr]
          refine HandSPX.setFlight_upZ fl3 fun hp4 sky4 up4 => wpAny_throw (tkO _ _ ?_)
          exact ⟨a, B, sI, pins, z2, g2, k, d, rfl, J, nb, (up.trans up3).trans up4, .inr (.inr (est ▸ sky4)), na, os, ag, wish⟩
        first
          | exact wpAny_bind (wpAny_pure (wpAny_bind away))
          | exact wpAny_bind away
      | @one x c t b bs p1 p2 hs2 l2 nm su r ih =>
        intro wish
        obtain ⟨yes, ex, wy, wn⟩ := wish
        refine wpAny_handleBy_cons (codeAny_handlers_test (named nm ((PySem.W.exm_one (M := model X.prog X.w) J3.kIn looksT ex).here ?_))) (by intro q; cases q)
        cases yes with
        | true =>
          refine codeAny_handlers_suite (HandSPX.lands_againZ fl3 fun hp4 fl4 up4 => ?_)
          have J4 : Inv X pins z2 g2 { u' with heap := hp4 } := J.landed nb fl4.1 ((up.trans up3).trans up4) os ag
          obtain ⟨o4, fs4, e4, zc4, d4⟩ := fl4.there
          refine wpAny_mono ((su a o4 k d (X.pn ++ pins) zc4 ⟨_, d4⟩).run [] _ _ g2 _ (J4.suite e4 d4 na nL nF) (wy rfl a na)) (fun fl u6 sp6 => ?_) (fun _ _ q => False.elim q)
          cases fl with
          | ret v =>
            obtain ⟨v6, z6, g6, S6, r6, q6⟩ := sp6
            exact ⟨_, _, _, S6.unsuite good, r6, q6⟩
          | _ =>
            obtain ⟨z6, g6, S6, q6⟩ := sp6
            exact ⟨_, _, S6.unsuite good, q6⟩
        | false =>
          show wpAny _ X.A (handleBy (.ref a) X.env hs2) _ _ _
          exact ih (wn rfl)
      | @asn i n x c t b bs p1 p2 hs2 l2 nm nd ni nl su r ih =>
        intro wish
        obtain ⟨yes, ex, wy, wn⟩ := wish
        refine wpAny_handleBy_cons (codeAny_handlers_test (named nm ((PySem.W.exm_one (M := model X.prog X.w) J3.kIn looksT ex).here ?_))) (by intro q; cases q)
        cases yes with
        | true =>
          refine codeAny_handlers_suite_as (HandSPX.lands_againZ fl3 fun hp4 fl4 up4 => ?_)
          have J4 : Inv X pins z2 g2 { u' with heap := hp4 } := J.landed nb fl4.1 ((up.trans up3).trans up4) os ag
          obtain ⟨o4, fs4, e4, zc4, d4⟩ := fl4.there
          refine store_ok (X := X.suite a ((a, o4) :: (X.pn ++ pins))) (v := .ref a) (J4.suite e4 d4 na nL nF) nd ni (.inl nl) rfl (fun u5 S5 => ?_) (.inr nl)
          refine wpAny_mono ((su a o4 k d (X.pn ++ pins) zc4 ⟨_, d4⟩).run [] u5 _ g2 _ S5 (wy rfl a na)) (fun fl u6 sp6 => ?_) (fun _ _ q => False.elim q)
          have left : ∀ {z6 : L2.St} {g6 : Hp} {R : Shared → Prop}, Inv (X.suite a ((a, o4) :: (X.pn ++ pins))) [] z6 g6 u6 → (∀ u7, Inv X pins (z6.set i none) g6 u7 → R u7) →
              wpAny (model X.prog X.w) X.A (do bindName X.env n .none; unbindBehindTheSuite X.env n p2) (fun _ u7 => R u7) X.xe u6 := fun {z6 g6 R} S6 q => gone_ok (S6.unsuite good) nd ni nl q
          cases fl with
          | ret v =>
            obtain ⟨v6, z6, g6, S6, r6, q6⟩ := sp6
            exact left S6 fun u7 J7 => ⟨_, _, _, J7, r6, q6⟩
          | _ =>
            obtain ⟨z6, g6, S6, q6⟩ := sp6
            exact left S6 fun u7 J7 => ⟨_, _, J7, q6⟩
        | false =>
          show wpAny _ X.A (handleBy (.ref a) X.env hs2) _ _ _
          exact ih (wn rfl)
    exact go hh wish
  · cases fl with
    | ret v =>
      obtain ⟨v2, z2, g2, J2, r2, q2⟩ := sp1
      exact ⟨v2, z2, g2, J2.ofTry good, r2, q2⟩
    | next =>
      obtain ⟨z2, g2, J2, q2⟩ := sp1
      exact wpAny_execs_nil ⟨z2, g2, J2.ofTry good, q2⟩
    | _ =>
      obtain ⟨z2, g2, J2, q2⟩ := sp1
      exact ⟨z2, g2, J2.ofTry good, q2⟩
end
/-! ### defs as they stand behind the top -/
def Df (K : PySem.W.Frag) (mg : Str → Option Value) (x : Str) (st : Stmt) (ps : List Str) : Prop :=
  ∃ f fd, Fun K x x st f fd ∧ mg x = some (.ref f) ∧ Binds K fd ps []
/-- with defaults; one is left out in some call -/
def DfD (K : PySem.W.Frag) (mg : Str → Option Value) (x : Str) (st : Stmt) (ps : List Str) (dvs : List V) : Prop :=
  ∃ f fd, FunD K x x (defArgs st) (defBody st) (defScope st) dvs [] f fd ∧ mg x = some (.ref f) ∧ Binds K fd ps [] ∧ ∃ ds, Vals dvs ds ∧ Binds K fd ps ds
/-- an own error without an __init__ -/
structure XP (K : PySem.W.Frag) (mg : Str → Option Value) (x : Str) (C : Addr) : Prop where
  gC : mg x = some (.ref C)
  xC : PySem.W.excIn K C [.type "ValueError", .type "Exception", .type "BaseException", .type "object"] "ValueError.__new__" = true
  kC : PySem.W.keepIn K (.ref C) = true
  eC : PySem.W.subIn K (.ref C) (.type "BaseException") = some true
  tC : PySem.W.typeIn K (.ref C) = some (.type "type")
theorem XP.made {X : Cx} {x : Str} {C : Addr} {p pos : Pos} (T : XP X.K X.mg x C) (hg : Gl X x) (hdb : (x == ("__debug__" : Str)) = false := by decide) :
    PMk X (.Call (.Name x p) [] [] pos) (fun _ H Q => Q (.ref C) none H) := by
  intro pins s z H Q I q
  refine wpAny_Call_Name_kw (ld_glob I hg T.gC (PySem.W.callWith_K0 I.kIn T.kC ?_) hdb)
  obtain ⟨bm, N, nm, qn, bs, hdct, sn, sub, ab, col, dd, k0, k1, k2, k3, k5, mN, hC, hN, hni, tl⟩ := exc_obj I.kIn T.xC
  exact wpAny_call_exc_subT F.excBase_ValueError tl hC hN hni (fun h' e hm => mk_of I hm (raises_own T.eC T.tC) q (I.hok.gone hm.new)) (by show 0 ≤ sizeLine; exact Nat.zero_le _)
/-- an own error whose __init__ keeps its arguments -/
structure XI (K : PySem.W.Frag) (mg : Str → Option Value) (x qual : Str) (st : Stmt) (ps : List Str) (C : Addr) : Prop where
  gC : mg x = some (.ref C)
  ox : OexC K C
  ini : ∃ f fd, Fun K "__init__" qual st f fd ∧ Binds K fd ps [] ∧ PySem.W.findIn K (.ref C) "__init__" = some (some (.ref f)) ∧ PySem.W.typeIn K (.ref f) = some (.type "function")
/-- the promise of an __init__ that keeps one argument as f -/
def spI1 (K : PySem.W.Frag) (C : Addr) (f : Str) : Sp := fun vs H Q _ => ∃ a v, vs = [.ref a, v] ∧ H a = some (exo a C none) ∧ OexC K C ∧ PySem.W.findIn K (.ref C) f = some none ∧
  ∀ dx, H dx = none → dx ≠ a → Q .non (upd (upd H dx (exd dx [(f, v)])) a (exo a C (some dx)))
/-- .. two arguments as f and g -/
def spI2 (K : PySem.W.Frag) (C : Addr) (f g : Str) : Sp := fun vs H Q _ => ∃ a v u, vs = [.ref a, v, u] ∧ H a = some (exo a C none) ∧ OexC K C ∧ PySem.W.findIn K (.ref C) f = some none ∧ PySem.W.findIn K (.ref C) g = some none ∧
  ∀ dx, H dx = none → dx ≠ a → Q .non (upd (upd (upd H dx (exd dx [(f, v)])) a (exo a C (some dx))) dx (exd dx [(g, u), (f, v)]))
theorem heap_made {H : Hp} {a d : Addr} {o1 o2 o3 o : HO} (ha : H a = none) (n : d ≠ a) : upd (del (upd (upd (upd H a o1) d o2) a o3) a) d o = upd H d o := by
  funext b
  by_cases hd : b = d
  · rw [hd, upd_same, upd_same]
  · rw [upd_ne hd, upd_ne hd]
    by_cases hb : b = a
    · rw [hb, del_same, ha]
    · rw [del_ne hb, upd_ne hb, upd_ne hd, upd_ne hb]
theorem raise1 {K : PySem.W.Frag} {C : Addr} {f : Str} {H : Hp} {v : V} {Q : XK} {E : XK} (T : OexC K C) (n : PySem.W.findIn K (.ref C) f = some none) (q : ∀ d, H d = none → Q (.ref C) (some d) (upd H d (.xd [(f, v)]))) :
    [v].length ≤ 1000 ∧ ∀ a, H a = none → spI1 K C f (.ref a :: ([v] ++ [])) (upd H a (exo a C none))
      (fun y H2 => y = .non ∧ ∃ (d : Addr) (fs : List (Str × V)), H2 a = some (exo a C (some d)) ∧ H2 d = some (exd d fs) ∧ H d = none ∧ Q (.ref C) (some d) (upd (del H2 a) d (.xd fs))) E := by
  refine ⟨(show 1 ≤ 1000 by decide), fun a ha => ⟨a, v, rfl, upd_same, T, n, fun dx hx ne => ⟨rfl, dx, [(f, v)], upd_same, ?_, ?_, ?_⟩⟩⟩
  · rw [upd_ne ne, upd_same]
  · rwa [upd_ne ne] at hx
  · rw [upd_ne ne] at hx
    rw [heap_made ha ne]
    exact q dx hx
theorem heap_made2 {H : Hp} {a d : Addr} {o1 o2 o3 o4 o : HO} (ha : H a = none) (n : d ≠ a) : upd (del (upd (upd (upd (upd H a o1) d o2) a o3) d o4) a) d o = upd H d o := by
  funext b
  by_cases hd : b = d
  · rw [hd, upd_same, upd_same]
  · rw [upd_ne hd, upd_ne hd]
    by_cases hb : b = a
    · rw [hb, del_same, ha]
    · rw [del_ne hb, upd_ne hd, upd_ne hb, upd_ne hd, upd_ne hb]
theorem raise2 {K : PySem.W.Frag} {C : Addr} {f g : Str} {H : Hp} {v u : V} {Q : XK} {E : XK} (T : OexC K C) (n : PySem.W.findIn K (.ref C) f = some none) (m : PySem.W.findIn K (.ref C) g = some none)
    (q : ∀ d, H d = none → Q (.ref C) (some d) (upd H d (.xd [(g, u), (f, v)]))) :
    [v, u].length ≤ 1000 ∧ ∀ a, H a = none → spI2 K C f g (.ref a :: ([v, u] ++ [])) (upd H a (exo a C none))
      (fun y H2 => y = .non ∧ ∃ (d : Addr) (fs : List (Str × V)), H2 a = some (exo a C (some d)) ∧ H2 d = some (exd d fs) ∧ H d = none ∧ Q (.ref C) (some d) (upd (del H2 a) d (.xd fs))) E := by
  refine ⟨(show 2 ≤ 1000 by decide), fun a ha => ⟨a, v, u, rfl, upd_same, T, n, m, fun dx hx ne => ⟨rfl, dx, [(g, u), (f, v)], ?_, upd_same, ?_, ?_⟩⟩⟩
  · rw [upd_ne (Ne.symm ne), upd_same]
  · rwa [upd_ne ne] at hx
  · rw [upd_ne ne] at hx
    rw [heap_made2 ha ne]
    exact q dx hx
/-! ### numbers and kinds of things -/
theorem cdw {i j : Int} (h : 0 < j) (b : j < 9223372036854775808) : CDivW i j :=
  wide_div (b := 63) h (by have e : (2 : Nat) ^ 63 = 9223372036854775808 := by decide
                           omega) (by decide) (by decide)
theorem cml {i j : Int} (h : -18446744073709551616 < i) (b : i < 18446744073709551616) : CMul i j := by
  have e : (2 : Int) ^ 64 = 18446744073709551616 := by decide
  exact .inl ⟨by omega, by omega⟩
theorem cmr {i j : Int} (h : -18446744073709551616 < j) (b : j < 18446744073709551616) : CMul i j := by
  have e : (2 : Int) ^ 64 = 18446744073709551616 := by decide
  exact .inr ⟨by omega, by omega⟩
/-- the things that a law hands in: None, bools, ints, texts, tuples, lists, dicts -/
def Plain (H : Hp) : V → Prop
  | .non => True
  | .bl _ => True
  | .int _ => True
  | .str _ => True
  | .ref a => (∃ xs, H a = some (.tup xs)) ∨ (∃ xs, H a = some (.lst xs)) ∨ ∃ kvs, H a = some (.dK kvs)
  | _ => False
def isI : V → Bool
  | .int _ => true
  | _ => false
def isB : V → Bool
  | .bl _ => true
  | _ => false
/-- a whole number from lo to hi -/
def whole (x : V) (lo hi : Int) : Bool := match x with
  | .int i => decide (lo ≤ i) && decide (i ≤ hi)
  | _ => false
theorem Plain.same {H H' : Hp} {x : V} (s : Same H H') (h : Plain H x) : Plain H' x := by
  cases x with
  | ref a =>
    rcases h with ⟨xs, h⟩ | ⟨xs, h⟩ | ⟨xs, h⟩
    · exact .inl ⟨xs, s _ _ h⟩
    · exact .inr (.inl ⟨xs, s _ _ h⟩)
    · exact .inr (.inr ⟨xs, s _ _ h⟩)
  | _ => exact h
theorem isi_int {K : PySem.W.Frag} {H : Hp} {x : V} {Q : VK} (h : Plain H x) (q : Q (.bl (isI x || isB x)) H) : rIsi K [x, .ty "int"] H Q := by
  cases x with
  | non => exact ⟨_, _, _, _, false, rfl, .ty _, .base .non, kit_ty (by decide +kernel), q⟩
  | bl b => exact ⟨_, _, _, _, true, rfl, .ty _, .base (.bl _), kit_ty (by decide +kernel), q⟩
  | int i => exact ⟨_, _, _, _, true, rfl, .ty _, .base (.int _), kit_ty (by decide +kernel), q⟩
  | str z => exact ⟨_, _, _, _, false, rfl, .ty _, .base (.str _), kit_ty (by decide +kernel), q⟩
  | ref a =>
    rcases h with ⟨xs, h⟩ | ⟨xs, h⟩ | ⟨xs, h⟩
    · exact ⟨_, _, _, _, false, rfl, .ty _, .base (.tup h), kit_ty (by decide +kernel), q⟩
    · exact ⟨_, _, _, _, false, rfl, .ty _, .base (.lst h), kit_ty (by decide +kernel), q⟩
    · exact ⟨_, _, _, _, false, rfl, .ty _, .base (.dK h), kit_ty (by decide +kernel), q⟩
  | byt _ => exact h.elim
  | flt _ => exact h.elim
  | ty _ => exact h.elim
theorem isi_bool {K : PySem.W.Frag} {H : Hp} {x : V} {Q : VK} (h : Plain H x) (q : Q (.bl (isB x)) H) : rIsi K [x, .ty "bool"] H Q := by
  cases x with
  | non => exact ⟨_, _, _, _, false, rfl, .ty _, .base .non, kit_ty (by decide +kernel), q⟩
  | bl b => exact ⟨_, _, _, _, true, rfl, .ty _, .base (.bl _), kit_ty (by decide +kernel), q⟩
  | int i => exact ⟨_, _, _, _, false, rfl, .ty _, .base (.int _), kit_ty (by decide +kernel), q⟩
  | str z => exact ⟨_, _, _, _, false, rfl, .ty _, .base (.str _), kit_ty (by decide +kernel), q⟩
  | ref a =>
    rcases h with ⟨xs, h⟩ | ⟨xs, h⟩ | ⟨xs, h⟩
    · exact ⟨_, _, _, _, false, rfl, .ty _, .base (.tup h), kit_ty (by decide +kernel), q⟩
    · exact ⟨_, _, _, _, false, rfl, .ty _, .base (.lst h), kit_ty (by decide +kernel), q⟩
    · exact ⟨_, _, _, _, false, rfl, .ty _, .base (.dK h), kit_ty (by decide +kernel), q⟩
  | byt _ => exact h.elim
  | flt _ => exact h.elim
  | ty _ => exact h.elim
/-- T // (m - 1) + 1, again and again -/
def room (p t : Int) : Int := t / (p - 1) + 1
def grow (p : Int) : Nat → Int → Int
  | 0, a => a
  | k + 1, a => grow p k a + room p (grow p k a)
theorem grow_le {p : Int} (hp : 2 ≤ p) : ∀ (k : Nat) {a : Int}, 0 ≤ a → 0 ≤ grow p k a ∧ grow p k a ≤ 2 ^ k * (a + 1) - 1
  | 0, a, h => ⟨h, by show a ≤ 2 ^ 0 * (a + 1) - 1; omega⟩
  | k + 1, a, h => by
    obtain ⟨h1, h2⟩ := grow_le hp k h
    have e : (2 : Int) ^ (k + 1) = 2 * 2 ^ k := by rw [Int.pow_succ, Int.mul_comm]
    have r0 : 0 ≤ grow p k a / (p - 1) := Int.ediv_nonneg h1 (by omega)
    have r1 : grow p k a / (p - 1) ≤ grow p k a := Int.ediv_le_self _ h1
    show 0 ≤ grow p k a + (grow p k a / (p - 1) + 1) ∧ grow p k a + (grow p k a / (p - 1) + 1) ≤ 2 ^ (k + 1) * (a + 1) - 1
    rw [e, Int.mul_assoc]
    omega
theorem whole_of {x : V} {lo hi : Int} (h : whole x lo hi = true) : ∃ i, x = .int i ∧ lo ≤ i ∧ i ≤ hi := by
  cases x with
  | int i =>
    have h' : (decide (lo ≤ i) && decide (i ≤ hi)) = true := h
    rw [Bool.and_eq_true, decide_eq_true_eq, decide_eq_true_eq] at h'
    exact ⟨i, rfl, h'.1, h'.2⟩
  | _ => exact absurd (show false = true from h) Bool.false_ne_true
theorem whole_int {i lo hi : Int} (h1 : lo ≤ i) (h2 : i ≤ hi) : whole (.int i) lo hi = true := by
  show (decide (lo ≤ i) && decide (i ≤ hi)) = true
  rw [decide_eq_true h1, decide_eq_true h2]
  rfl
theorem whole_no {i lo hi : Int} (h : i < lo ∨ hi < i) : whole (.int i) lo hi = false := by
  show (decide (lo ≤ i) && decide (i ≤ hi)) = false
  rcases h with h | h
  · rw [decide_eq_false (by omega : ¬ lo ≤ i)]
    rfl
  · rw [decide_eq_false (by omega : ¬ i ≤ hi), Bool.and_false]
/-- a def that checks a number up to m, then the people from 2 to 5, and then does R -/
def spTwo (cX : Addr) (m : Int) (cP : Addr) (R : Int → Int → VK → Hp → Prop) : Sp := fun vs H Q E => ∃ x y : V, vs = [x, y] ∧ Plain H x ∧ Plain H y ∧
  (whole x 0 m = false → ∀ d, H d = none → E (.ref cX) (some d) (upd H d (.xd [("most", .int m)]))) ∧ (whole x 0 m = true → whole y 2 5 = false → E (.ref cP) none H) ∧
  ∀ t p : Int, x = .int t → y = .int p → 0 ≤ t → t ≤ m → 2 ≤ p → p ≤ 5 → R t p Q H
theorem len_two {cX cP : Addr} {m : Int} {R : Int → Int → VK → Hp → Prop} {vs : List V} {H : Hp} {Q : VK} {E : XK} (h : spTwo cX m cP R vs H Q E) : vs.length = 2 := by
  obtain ⟨_, _, rfl, _⟩ := h; rfl
/-- the fewest steps that reach t -/
def Least (p t : Int) (n : Nat) : Prop := (∀ k, k < n → grow p k 0 < t) ∧ t ≤ grow p n 0
/-! ### for k, x in enumerate(xs) -/
theorem for_enum {K : PySem.W.Frag} {a : Addr} {xs : List V} {g : TG} {tb : TS} {D : Ends} {z0 : L2.St} {H : Hp} (Pv : Nat → L2.St → Hp → Prop) (h0 : Pv 0 z0 H) (hl : ∀ i z h, i ≤ xs.length → Pv i z h → SqL K h a xs)
    (hs : ∀ i x T z h, xs[i]? = some x → h T = none → Pv i z h → g (.ref T) z (upd h T (.tup [.int (i : Nat), x])) fun z2 h2 => tb { D with nx := Pv (i + 1), ct := Pv (i + 1), bk := D.nx } z2 h2) (hd : ∀ z h, Pv xs.length z h → D.nx z h) :
    ∃ W : Nat → Nat → L2.St → Hp → Prop, (∃ m, W 0 m z0 H) ∧ ∀ i m z h, W i m z h →
      ((Ite K a).stop i h ∧ D.nx z h) ∨ ((Ite K a).go i h ∧ ∃ N : L2.St → Hp → Prop, (∀ z' h', N z' h' → ∃ m', m' < m ∧ W (i + 1) m' z' h') ∧ ∀ x h', (Ite K a).yld i h x h' → g x z h' fun z2 h2 => tb { D with nx := N, ct := N, bk := D.nx } z2 h2) := by
  refine ⟨fun i m z h => m = xs.length - i ∧ i ≤ xs.length ∧ Pv i z h, ⟨xs.length, by simp, Nat.zero_le _, h0⟩, ?_⟩
  rintro i m z h ⟨rfl, hi, p⟩
  have q := hl i z h hi p
  by_cases hlt : i < xs.length
  · refine .inr ⟨⟨xs, xs[i], q, by simp [hlt]⟩, Pv (i + 1), fun z' h' p' => ⟨xs.length - (i + 1), by omega, rfl, hlt, p'⟩, fun v h' y => ?_⟩
    obtain ⟨T, x, rfl, hT, rfl, hx⟩ := y
    exact hs i x T z h (hx xs q) hT p
  · obtain rfl : i = xs.length := by omega
    exact .inl ⟨⟨xs, q, Nat.le_refl _⟩, hd z h p⟩
/-! ### the hand of a law: its list [cells, place, rest, total], all of them whole numbers from 0 -/
structure HandAt (H : Hp) (h q : Addr) : Prop where
  ex : ∃ (cs : List Int) (i r t : Int), H h = some (.lst [.ref q, .int i, .int r, .int t]) ∧ H q = some (.lst (cs.map V.int)) ∧ cs.length ≤ 63 ∧ (∀ c, c ∈ cs → 0 ≤ c) ∧ 0 ≤ i ∧ i ≤ cs.length ∧ 0 ≤ r ∧ 0 ≤ t ∧ t < 2147483629
/-- all that stood stands, but for what is at h -/
def But (h : Addr) (H H' : Hp) : Prop := ∀ b o, H b = some o → b ≠ h → H' b = some o
theorem But.refl (h : Addr) (H : Hp) : But h H H := fun _ _ e _ => e
theorem But.trans {h : Addr} {H1 H2 H3 : Hp} (a : But h H1 H2) (b : But h H2 H3) : But h H1 H3 := fun c o e n => b c o (a c o e n) n
theorem But.of {h : Addr} {H H' : Hp} (s : Same H H') : But h H H' := fun b o e _ => s b o e
theorem But.new {h p : Addr} {H : Hp} {o : HO} (hp : H p = none) : But h H (upd H p o) := fun b u e _ => by
  rw [upd_ne (ne_of_none e hp)]; exact e
theorem But.upd {h : Addr} {H : Hp} {o : HO} : But h H (L2.upd H h o) := fun b u e n => by
  rw [upd_ne n]; exact e
theorem But.then {h : Addr} {H H' : Hp} {o : HO} (a : But h H H') : But h H (L2.upd H' h o) := a.trans But.upd
theorem Same.new {p : Addr} {H : Hp} {o : HO} (hp : H p = none) : Same H (upd H p o) := fun b u e => by
  rw [upd_ne (ne_of_none e hp)]; exact e
theorem HandAt.ne {H : Hp} {h q : Addr} (x : HandAt H h q) : h ≠ q := by
  obtain ⟨cs, i, r, t, h1, h2, _⟩ := x.ex
  intro e
  rw [e, h2] at h1
  cases cs with
  | nil => cases h1
  | cons c cs => cases h1
theorem HandAt.same {H H' : Hp} {h q : Addr} (x : HandAt H h q) (s : Same H H') : HandAt H' h q := by
  obtain ⟨cs, i, r, t, h1, h2, m⟩ := x.ex
  exact ⟨cs, i, r, t, s _ _ h1, s _ _ h2, m⟩
theorem HandAt.has {H : Hp} {h q : Addr} (x : HandAt H h q) : ∃ o, H h = some o := by
  obtain ⟨cs, i, r, t, h1, _⟩ := x.ex
  exact ⟨_, h1⟩
theorem HandAt.off {H : Hp} {h q p : Addr} (x : HandAt H h q) (hp : H p = none) : p ≠ h := by
  obtain ⟨o, e⟩ := x.has
  exact fun z => by rw [z, e] at hp; cases hp
/-- a draw's promise: some number below many, the hand as a hand -/
def spDraw : Sp := fun vs H Q _ => ∃ (h q : Addr) (m : Int), vs = [.ref h, .int m] ∧ HandAt H h q ∧ 0 < m ∧ m < 9223372036854775808 ∧
  ∀ d H', 0 ≤ d → d < m → HandAt H' h q → But h H H' → Q (.int d) H'
def spHand (K : PySem.W.Frag) : Sp := fun vs H Q _ => ∃ (a : Addr) (ns : List Int), vs = [.ref a] ∧ SqL K H a (ns.map V.int) ∧ ns.length ≤ 63 ∧
  ∀ h q H', Same H H' → HandAt H' h q → Q (.ref h) H'
def spMix : Sp := fun vs H Q _ => ∃ n t : Int, vs = [.int n, .int t] ∧ 0 ≤ n ∧ n < 2147483648 ∧ 0 ≤ t ∧ t ≤ 1000 ∧ ∀ r, 0 ≤ r → Q (.int r) H
theorem nat_map {ns : List Int} {i : Nat} {y : V} (h : (ns.map V.int)[i]? = some y) : ∃ c, ns[i]? = some c ∧ y = .int c := by
  rw [List.getElem?_map] at h
  cases e : ns[i]? with
  | none => rw [e] at h; cases h
  | some c => rw [e] at h; exact ⟨c, rfl, (Option.some.inj h).symm⟩
theorem two_ok {cX cP : Addr} {m : Int} {R : Int → Int → VK → Hp → Prop} {t p : Int} {H : Hp} {Q : VK} {E : XK} (t0 : 0 ≤ t) (t1 : t ≤ m) (p0 : 2 ≤ p) (p1 : p ≤ 5) (r : R t p Q H) : spTwo cX m cP R [.int t, .int p] H Q E :=
  ⟨_, _, rfl, True.intro, True.intro, fun a => absurd (a.symm.trans (whole_int t0 t1)) (by decide), fun _ b => absurd (b.symm.trans (whole_int p0 p1)) (by decide), fun t' p' e1 e2 _ _ _ _ => by
    cases e1
    cases e2
    exact r⟩
theorem isi_tuple {K : PySem.W.Frag} {H : Hp} {a : Addr} {xs : List V} {Q : VK} (h : H a = some (.tup xs)) (q : Q (.bl true) H) : rIsi K [.ref a, .ty "tuple"] H Q :=
  ⟨_, _, _, _, true, rfl, .ty _, .base (.tup h), kit_ty (by decide +kernel), q⟩
theorem pow2_le {k n : Nat} (h : k ≤ n) : (2 : Int) ^ k ≤ 2 ^ n := by
  have e : (2 : Nat) ^ k ≤ 2 ^ n := Nat.pow_le_pow_right (by decide) h
  have c : ∀ j : Nat, (2 : Int) ^ j = ((2 ^ j : Nat) : Int) := fun j => by
    induction j with
    | zero => rfl
    | succ j ih => rw [Int.pow_succ, ih, Nat.pow_succ]; omega
  rw [c, c]
  omega
/-- two tuples (text, number) with the same data -/
theorem ne_pair {K : PySem.W.Frag} {H : Hp} {a b : Addr} {x : Str} {n : Int} {Q : VK} (ha : H a = some (.tup [.str x, .int n])) (hb : H b = some (.tup [.str x, .int n])) (sx : SeqAt.shaped (.tuple [.str x, .int n]) = true) (q : Q (.bl false) H) : rNeD K (.ref a) (.ref b) H Q := by
  refine ⟨.tuple [.str x, .int n], .tuple [.str x, .int n], .tup (SqT.of ha) (.cons (.str _) (.cons (.int _) .nil)), .tup (SqT.of hb) (.cons (.str _) (.cons (.int _) .nil)), sx, sx, ?_⟩
  have e : PyData.eqv (.tuple [.str x, .int n]) (.tuple [.str x, .int n]) = true := by simp [PyData.eqv, PyData.eqvAll]
  rw [e]
  exact q
theorem Least.one {p t : Int} {n m : Nat} (a : Least p t n) (b : Least p t m) : n = m := by
  rcases Nat.lt_trichotomy n m with h | h | h
  · have z := b.1 n h
    have y := a.2
    omega
  · exact h
  · have z := a.1 m h
    have y := b.2
    omega
/-- what «except» asks of two classes -/
theorem exm_mk {K : PySem.W.Frag} {S R : Addr} {b : Bool} (h1 : PySem.W.subIn K (.ref S) (.type "BaseException") = some true) (h2 : PySem.W.isClsIn K S = true) (h3 : PySem.W.typeIn K (.ref S) = some (.type "type")) (h4 : PySem.W.subIn K (.ref R) (.ref S) = some b) :
    PySem.W.exmOne K (.ref R) (.ref S) = some b := by
  have e1 : (PySem.W.subIn K (.ref S) (.type "BaseException") == some true) = true := by rw [h1]; rfl
  have h2' : (PySem.W.clsIn K S).isSome = true := h2
  have e2 : ((PySem.W.clsIn K S).isSome && PySem.W.typeIn K (.ref S) == some (.type "type")) = true := by rw [h2', h3]; rfl
  show (if _ then (if _ then _ else none) else none) = some b
  rw [if_pos e1, if_pos e2]
  exact h4
end Gen
set_option Elab.async false
set_option linter.all false
set_option maxRecDepth 100000
set_option maxHeartbeats 4000000
/-! ## More rules: == and != of own instances, sorted and sum of tuples, enumerate of tuples -/
namespace Gen
open PySem PySem.Spec PyProof.Rows L2
section
variable {X : Cx} {pins : List (Addr × Obj)} {z : L2.St} {H : Hp} {s : Shared} {n : Nat} {f C : Addr} {fd : FuncData} {ps : List Str} {sp : Sp} {vs : List V} {us : List Value} {Q : VK}
theorem call_below {A : Around} (F : FnOk X.prog X.w X.K X.mg X.base CX0 n f fd ps sp) (hb : L2.Binds X.K fd ps []) (room : Room n A) (efr : A.frames = X.A.frames) (I : Inv X pins z H s) (r : Vals vs us) (q : sp vs H Q E0) :
    wpAny (model X.prog X.w) A (call (.ref f) us) (EP X pins z Q) X.xe s := by
  have e0 : Env0 X.prog X.w X.K X.mg X.base A X.stack s H := by
    have e := I.env0
    exact ⟨by rw [efr]; exact e.frames, e.mod, e.bs, e.bsz, e.funs, e.frf, e.hok, e.bare⟩
  have hl := F.len _ _ _ _ q
  have b := hb s us I.kIn (by rw [List.append_nil, ← r.length]; exact hl)
  rw [List.append_nil] at b
  refine wpAny_call (codeAny_mono (F.run A X.stack s H ⟨us, []⟩ us vs Q E0 room e0 b r q) fun o s' hq => ?_)
  cases o with
  | error e => exact False.elim hq
  | ok fl =>
    cases fl with
    | ret u => exact I.after hq
    | _ => exact False.elim hq
/-- == (neg: !=) of an instance of the class at C by its own __eq__, whatever stands on the right -/
def rOwnEq (K : PySem.W.Frag) (C : Addr) (sp : Sp) (neg : Bool) : R2 := fun x y H Q => ∃ a dx fs t, x = .ref a ∧ H a = some (.ins C dx fs) ∧ TyX K H y t ∧ PySem.W.notFirst K C t = true ∧
  sp [x, y] H (fun r H' => ∃ b : Bool, r = .bl b ∧ Q (.bl (if neg = true then !b else b)) H') E0
theorem op_eqI (F : FnOk X.prog X.w X.K X.mg X.base CX0 n f fd ps sp) (hb : L2.Binds X.K fd ps []) (hs : PySem.W.findIn X.K (.ref C) "__eq__" = some (some (.ref f))) (hf : PySem.W.isFn X.K (.ref f) = true) (hr : Room n X.A) :
    OpR X (compareOp .Eq) (rOwnEq X.K C sp false) := by
  intro pins s z H x y v u Q I rx ry h
  obtain ⟨a, dx, fs, t, rfl, ha, ty, nf, q⟩ := h
  cases (show v = Value.ref a from rx)
  obtain ⟨mA, J, _⟩ := ins_get I.hok ha
  obtain ⟨od, J, _⟩ := J.look
  obtain ⟨m, hF⟩ := I.fr
  obtain ⟨P, Z, p, _⟩ := kit_of I ry ty
  show wpAny _ X.A (richCompare .Eq (.ref a) u) _ _ s
  refine PySem.W.cmp_K (op := .Eq) (tb := t) hr.units0 hF I.ok.mod.kin J (Z.ty _ _ I.kIn p) nf hs hf ?_
  refine wpAny_mono (call_below F hb hr rfl I (show Vals [V.ref a, y] [Value.ref a, u] from .cons rfl (.cons ry .nil)) q) (fun w s' e => ?_) fun _ _ e => e
  obtain ⟨r, H', I', rr, b, rfl, qz⟩ := e
  cases (show w = Value.bool b from rr)
  exact ⟨.bl b, H', I', rfl, qz⟩
end
section
variable {M : Model} {A : Around} {E : Value → Shared → Prop} {s : Shared} {K : PySem.W.Frag} {x C : Addr} {ox : Obj} {od : Option Obj} {name : Str} {id : String}
theorem ifBound_B {args : List Value} {Q : Option Value → Shared → Prop} (Xk : K.In s.heap) (I : PySem.W.InstAt s.heap x ox C od) (hs : PySem.W.findIn K (.ref C) name = some (some (.builtin id)))
    (bd : ∀ self, bindSpecial (.builtin id) self = pure (.builtin id, [self])) (h : wpAny M A (call (.builtin id) (.ref x :: args)) (fun v => Q (some v)) E s) : wpAny M A (callSpecialIfBound? (.ref x) name args) Q E s := by
  simp only [callSpecialIfBound?, bindSpecialIfBound?]
  refine wpAny_holding (wpAny_bind (wpAny_bind (wpAny_bind (I.type.here ((PySem.W.looks_findIn Xk hs).here ?_)))))
  simp only [bd]
  refine wpAny_bind (wpAny_askSetting (wpAny_ite ?_))
  have done : wpAny M A (call (.builtin id) ([.ref x] ++ args) >>= fun v => pure (some v)) Q E s := wpAny_bind (wpAny_mono h (fun v s' q => wpAny_pure q) fun _ _ q => q)
  split
  · exact wpAny_bind (wpAny_pure (wpAny_pure done))
  · exact wpAny_tryCatch (wpAny_bind (wpAny_pure (wpAny_pure done)))
end
section
variable {prog : Program} {w : World} {A : Around} {E : Value → Shared → Prop} {s : Shared} {K : PySem.W.Frag} {x C f : Addr} {ox : Obj} {od : Option Obj} {u tb : Value}
theorem ne_below {Q : Value → Shared → Prop} (hu : A.units + 1 < cLine) (Xk : K.In s.heap) (I : PySem.W.InstAt s.heap x ox C od) (hb : PySem.W.Looks (model prog w) s.heap (typeOf u) tb) (hn : PySem.W.notFirst K C tb = true)
    (hs : PySem.W.findIn K (.ref C) "__ne__" = some (some (.builtin "object.__ne__"))) (he : PySem.W.findIn K (.ref C) "__eq__" = some (some (.ref f))) (hf : PySem.W.isFn K (.ref f) = true) (hm : PySem.W.mroIn K C (.type "object") = some true)
    (h : wpAny (model prog w) A.in1 (call (.ref f) [.ref x, u]) (fun v s' => ∃ b, v = .bool b ∧ Q (.bool (!b)) s') E s) : wpAny (model prog w) A (richCompare .NotEq (.ref x) u) Q E s := by
  have sub : PySem.W.Looks (model prog w) s.heap (isInstance (.ref x) (.type "object")) true := I.type.andThen (PySem.W.looks_mroIn Xk hm)
  have inner : wpAny (model prog w) A.in1 (Builtin.«object.__ne__» ⟨[.ref x, u], []⟩) (fun fin s' => ∃ v, fin = .done (.ret v) ∧ v ≠ .notImplemented ∧ Q v s') E s := by
    unfold Builtin.«object.__ne__»
    repeat (first
      | with_reducible refine wpAny_cRoomFor (show A.in1.units < cLine from hu) ?_
      | (refine wpAny_bind (m := callSpecialIfBound? (.ref x) (Str.ofString "__eq__") [u])
          (PySem.W.ifBound_K Xk I he hf (wpAny_mono h (fun r s' hr => by
            obtain ⟨b, rfl, hq⟩ := hr
            repeat (first | exact ⟨_, rfl, (fun e => nomatch e), hq⟩ | exact wpAny_pure ⟨_, rfl, (fun e => nomatch e), hq⟩ | (refine wpAny_bind (m := truthy (.bool _)) (wpAny_truthy_bool ?_)) | wp_step)) fun _ _ e => e)))
      | wp_step)
  have one : wpAny (model prog w) A (tryCompare (.ref x) (cmpInfo .NotEq).2.1 u) (fun r s' => ∃ v, r = some v ∧ Q v s') E s := by
    unfold tryCompare
    refine wpAny_bind (ifBound_B Xk I hs F.slot_object_ne.bind (wpAny_call (codeAny_call_builtin F.slot_object_ne.plain F.cmpEntry_ne
      (@PySem.W.check_slot (model prog w) _ _ s "object.__ne__" "object" "__ne__" (.ref x) [u] [] _ F.cmpKind_ne F.cmpSplit_ne sub (F.cmpArgs_ne _ _) (wpAny_mono inner (fun fin s' q => ?_) fun _ _ q => q)))))
    obtain ⟨v, rfl, nv, q⟩ := q
    cases v <;> first | exact absurd rfl nv | exact wpAny_pure ⟨_, rfl, q⟩ | exact ⟨_, rfl, wpAny_pure ⟨_, rfl, q⟩⟩
  unfold richCompare
  simp only [oneThing_ref]
  refine wpAny_holding (wpAny_bind (wpAny_cRoomFor (Nat.lt_of_succ_lt hu) ?_))
  refine wpAny_bind (I.type.here (wpAny_bind (hb.here ?_)))
  split
  · rename_i q
    have e : PySem.W.subIn K tb (.ref C) = some false := by
      rcases Bool.or_eq_true_iff.mp hn with e | e
      · rw [beq_iff_eq.mp e] at q
        simp at q
      · exact beq_iff_eq.mp e
    refine wpAny_bind ((PySem.W.looks_subIn Xk e).here ?_)
    simp only [Bool.false_eq_true, if_false]
    refine wpAny_bind (wpAny_mono one (fun r s' y => ?_) fun _ _ e => e)
    obtain ⟨v, rfl, hq⟩ := y
    exact wpAny_pure hq
  · refine wpAny_bind (wpAny_pure ?_)
    simp only [Bool.false_eq_true, if_false]
    refine wpAny_bind (wpAny_mono one (fun r s' y => ?_) fun _ _ e => e)
    obtain ⟨v, rfl, hq⟩ := y
    exact wpAny_pure hq
end
section
variable {X : Cx} {n : Nat} {f C : Addr} {fd : FuncData} {ps : List Str} {sp : Sp}
theorem op_neI (F : FnOk X.prog X.w X.K X.mg X.base CX0 n f fd ps sp) (hb : L2.Binds X.K fd ps []) (hs : PySem.W.findIn X.K (.ref C) "__ne__" = some (some (.builtin "object.__ne__"))) (he : PySem.W.findIn X.K (.ref C) "__eq__" = some (some (.ref f)))
    (hf : PySem.W.isFn X.K (.ref f) = true) (hm : PySem.W.mroIn X.K C (.type "object") = some true) (hr : Room (n + 1) X.A) : OpR X (compareOp .NotEq) (rOwnEq X.K C sp true) := by
  intro pins s z H x y v u Q I rx ry h
  obtain ⟨a, dx, fs, t, rfl, ha, ty, nf, q⟩ := h
  cases (show v = Value.ref a from rx)
  obtain ⟨mA, J, _⟩ := ins_get I.hok ha
  obtain ⟨od, J, _⟩ := J.look
  obtain ⟨P, Z, p, _⟩ := kit_of I ry ty
  show wpAny _ X.A (richCompare .NotEq (.ref a) u) _ _ s
  refine ne_below (by have e := hr.un; omega) I.kIn J (Z.ty _ _ I.kIn p) nf hs he hf hm ?_
  refine wpAny_mono (call_below F hb hr.in1 rfl I (show Vals [V.ref a, y] [Value.ref a, u] from .cons rfl (.cons ry .nil)) q) (fun w s' e => ?_) fun _ _ e => e
  obtain ⟨r, H', I', rr, b, rfl, qz⟩ := e
  cases (show w = Value.bool b from rr)
  exact ⟨b, rfl, .bl (!b), H', I', rfl, qz⟩
end
/-! ### sorted(t), sum(t) -/
section
variable {prog : Program} {w : World} {A : Around} {E : Value → Shared → Prop} {s : Shared} {t : Addr}
theorem sorted_tup {vs : List Value} {ns : List Int} {Q : Value → Shared → Prop} (ht : s.heap.IsTuple t vs.toArray) (hi : IntsAre vs ns) (hz : vs.length ≤ sizeLine)
    (h : ∀ (h1 h' : Heap) (out : Array Value) (ns' : List Int) (e : Nat), (∀ b o, s.heap.get? b = some o → h1.get? b = some o) → (∀ b o, h1.get? b = some o → h'.get? b = some o) → h'.get? h1.objs.size = some (seqObj "list" out e) → IntsAre out.toList ns' → ns'.Perm ns → ns'.Pairwise (· ≤ ·) → Q (.ref h1.objs.size) { s with heap := h' }) :
    wpAny (model prog w) A (call (.builtin "sorted") [.ref t]) Q E s := by
  obtain ⟨o, ho, hc, n, hd⟩ := ht
  refine Calls.call_function_entry kind_sorted plain_sorted entry_sorted (args_sorted1 _) ?_
  unfold Builtin.«sorted»
  refine wpAny_bind (m := checkCount "sorted" 1 1 _) (wpAny_pure ?_)
  refine wpAny_bind (wpAny_collect_seq t (.inr rfl) ho hc hd (fun h1 kp => ?_) (by simpa using hz))
  have e1 : vs.toArray.toList = vs := by simp
  rw [e1]
  refine wpAny_bind (wpAny_newList ?_)
  have at0 : (h1.push (seqObj "list" vs.toArray 0)).get? h1.objs.size = some (seqObj "list" vs.toArray 0) := Heap.get?_push_size _ rfl
  show wpAny _ _ _ _ _ { s with heap := h1.push (seqObj "list" vs.toArray 0) }
  refine wpAny_bind (wpAny_holding (wpAny_call_entry slot_list_sort ⟨_, at0, rfl⟩ entry_list_sort (list_sort_treeAny at0 hi hz fun out ns' a1 a2 a3 => ⟨_, rfl, ?_⟩) (args_list_sort _)))
  obtain ⟨e, he⟩ := sortedHeap_at (out := out) at0
  exact wpAny_pure ⟨_, rfl, h h1 _ out ns' e kp (fun b u hb => by
    have lt := Heap.lt_size hb
    rw [sortedHeap_old (Nat.ne_of_lt lt) (by rw [size_push']; exact Nat.lt_succ_of_lt lt)]
    exact Heap.get?_push_of_some _ hb) he a1 a2 a3⟩
theorem sum_tup {its : List Value} {ns : List Int} {Q : Value → Shared → Prop} (hh : A.handled = none) (ht : s.heap.IsTuple t its.toArray) (hi : IntsAre its ns)
    (h : ∀ h' tk t', (∀ b o, s.heap.get? b = some o → h'.get? b = some o) → Q (.int ns.sum t') { s with heap := h', toks := tk }) : wpAny (model prog w) A (call (.builtin "sum") [.ref t]) Q E s := by
  obtain ⟨xs, e⟩ := hi.allInts.items
  have hn : numsOf (intItems xs).toList = ns := by rw [← e]; exact hi.numsOf
  rw [nums_intItems] at hn
  rw [e] at ht
  have lt : t < s.heap.objs.size := by obtain ⟨_, q, _⟩ := ht; exact Heap.lt_size q
  refine call_sum_walkG (wpAny_pyIter_tuple ht ?_)
  refine ⟨_, _, _, _, _, _, numAt xs, rfl, Walks.tuple (A := A.in1) hh _ t (Nat.ne_of_lt lt) (intItems xs), ⟨⟨_, Heap.get?_push_size _ rfl, rfl, rfl⟩, ht.push _⟩, fun b hb => ?_, (fun _ _ => intItems_at), fun h' tk t' hk => ?_⟩
  · show b < (s.heap.push _).objs.size
    rw [Heap.size_push]
    rcases List.mem_cons.mp hb with rfl | hb
    · exact Nat.lt_succ_self _
    · rw [List.mem_singleton.mp hb]
      exact Nat.lt_succ_of_lt lt
  · have old : ∀ b o, s.heap.get? b = some o → h'.get? b = some o := fun b o q => by
      refine hk b o (fun hm => ?_) (Heap.get?_push_of_some _ q)
      rw [List.mem_singleton.mp hm] at q
      exact absurd (Heap.lt_size q) (Nat.lt_irrefl _)
    have r := h h' tk t' old
    have e2 : (intItems xs).size = xs.size := by simp [intItems]
    rw [e2, preSum_eq, List.take_of_length_le (by simp), hn]
    exact r
end
/-- a list or a tuple -/
def SqE (K : PySem.W.Frag) (H : Hp) (a : Addr) (xs : List V) : Prop := SqL K H a xs ∨ SqT K H a xs
theorem SqE.same {K : PySem.W.Frag} {H H' : Hp} {a : Addr} {xs : List V} (h : SqE K H a xs) (s : Same H H') : SqE K H' a xs := by
  rcases h with h | (h | ⟨o, h⟩) | h
  · exact .inl (s.seq h)
  · exact .inr (.inl (.inl (s _ _ h)))
  · exact .inr (.inl (.inr ⟨o, s _ _ h⟩))
  · exact .inr (.inr h)
section
variable {X : Cx}
/-- sorted of ints, a list or a tuple, of any length -/
def rSortedE (K : PySem.W.Frag) : List V → Hp → VK → Prop := fun vs H Q => ∃ (a : Addr) (ns : List Int), vs = [V.ref a] ∧ SqE K H a (ns.map V.int) ∧
  ∀ (ns' : List Int) (p : Addr), ns'.Perm ns → ns'.Pairwise (· ≤ ·) → H p = none → Q (.ref p) (upd H p (.lst (ns'.map V.int)))
theorem cr_sortedE : CallR X (.builtin "sorted") (rSortedE X.K) := by
  intro pins s z H vs us Q I r h
  obtain ⟨a, ns, rfl, hs, q⟩ := h
  rw [Vals.ref1 r]
  rcases hs with hs | hs
  · obtain ⟨its, rv, hl, hz⟩ := I.list hs
    have hi := rv.ints
    have ln := rv.length
    refine PyProof.Rows.sorted_intsAny hl.isList hi (by omega) fun out ns' h1 h2 h3 => ?_
    obtain ⟨ep, he⟩ := PyProof.Rows.sortedAll_at s.heap its out
    have hlen : (ns'.map V.int).length ≤ sizeLine := by rw [List.length_map, h2.length_eq]; rw [List.length_map] at hz; exact hz
    exact ⟨.ref _, upd H (s.heap.objs.size + 1) (.lst (ns'.map V.int)), I.laid (t' := s.toks) (fun _ _ => PyProof.Rows.sortedAll_old) (Nat.le_succ _) ⟨hlen, out.toList, ep, vals_of_ints h1, he⟩, rfl, q ns' _ h2 h3 (I.hok.fresh (Nat.le_succ _))⟩
  · obtain ⟨its, rv, hl, hz⟩ := I.tuple hs
    have hi := rv.ints
    have ln := rv.length
    refine sorted_tup (show s.heap.IsTuple a its.toArray from hl) hi (by omega) fun h1 h' out ns' e k1 k2 at_ i1 i2 i3 => ?_
    have hlen : (ns'.map V.int).length ≤ sizeLine := by rw [List.length_map, i2.length_eq]; rw [List.length_map] at hz; exact hz
    have I1 : Inv X pins z H { s with heap := h1 } := I.kept (t' := s.toks) k1
    exact ⟨.ref _, upd H h1.objs.size (.lst (ns'.map V.int)), I1.laid (t' := s.toks) k2 (Nat.le_refl _) ⟨hlen, out.toList, e, vals_of_ints i1, at_⟩, rfl, q ns' _ i2 i3 (I1.hok.fresh (Nat.le_refl _))⟩
def rSumE (K : PySem.W.Frag) : List V → Hp → VK → Prop := fun vs H Q => ∃ (a : Addr) (ns : List Int), vs = [V.ref a] ∧ SqE K H a (ns.map V.int) ∧ Q (.int ns.sum) H
theorem cr_sumE (hc : X.calm = true) : CallR X (.builtin "sum") (rSumE X.K) := by
  intro pins s z H vs us Q I r h
  obtain ⟨a, ns, rfl, hs, q⟩ := h
  rcases hs with hs | hs
  · exact cr_sum hc pins s z H _ us Q I r ⟨a, ns, rfl, hs, q⟩
  · obtain ⟨its, rv, hl, _⟩ := I.tuple hs
    rw [Vals.ref1 r]
    exact sum_tup (I.ok.hd hc) (show s.heap.IsTuple a its.toArray from hl) rv.ints fun h' tk t' hk => ⟨.int _, H, I.kept hk, ⟨_, rfl⟩, q⟩
end
end Gen
namespace Gen
open PySem PySem.Spec PyProof.Rows L2
/-- an own class as the top has written it -/
structure Own (K : PySem.W.Frag) (mg : Str → Option Value) (x : Str) (C : Addr) : Prop where
  gC : mg x = some (.ref C)
  cl : Cls K C
  mkI : PySem.W.makesIn K C = true
  kp : PySem.W.keepIn K (.ref C) = true
  ha : PySem.W.findIn K (.ref C) "__class__" = some (some (.builtin "object.__class__"))
  hn : PySem.W.specialIn K (.builtin "object.__class__") "__get__" = some (some (.builtin "getset_descriptor.__get__"))
  ht : PySem.W.takesIn K (.builtin "object.__class__") = some true
  hm : PySem.W.mroIn K C (.type "object") = some true
  ci : PySem.W.isClsIn K C = true
  ct : PySem.W.typeIn K (.ref C) = some (.type "type")
  ne : PySem.W.findIn K (.ref C) "__ne__" = some (some (.builtin "object.__ne__"))
def OwnI (K : PySem.W.Frag) (qual : Str) (st : Stmt) (ps : List Str) (C : Addr) : Prop := ∃ f fd, Fun K "__init__" qual st f fd ∧ Binds K fd ps [] ∧ Mk K C f
def OwnE (K : PySem.W.Frag) (qual : Str) (st : Stmt) (ps : List Str) (C : Addr) : Prop :=
  ∃ f fd, Fun K "__eq__" qual st f fd ∧ Binds K fd ps [] ∧ PySem.W.findIn K (.ref C) "__eq__" = some (some (.ref f)) ∧ PySem.W.isFn K (.ref f) = true
section
variable {K : PySem.W.Frag} {mg : Str → Option Value} {x : Str} {C : Addr} {H : Hp}
theorem Own.ty (o : Own K mg x C) {a dx : Addr} {fs : List (Str × V)} (h : H a = some (.ins C dx fs)) : TyX K H (.ref a) (.ref C) := .base (.ins h o.cl o.ha o.hn o.ht o.hm)
theorem nf_self : PySem.W.notFirst K C (.ref C) = true := by
  unfold PySem.W.notFirst
  rw [show (Value.ref C == Value.ref C) = true from beq_self_eq_true _]
  rfl
theorem nf_tup : PySem.W.notFirst K C (.type "tuple") = true := rfl
theorem nf_non : PySem.W.notFirst K C (.type "NoneType") = true := rfl
theorem Own.kit_self (o : Own K mg x C) : PySem.W.kitOne K (.ref C) (.ref C) = some true := by
  unfold PySem.W.kitOne
  rw [if_pos (beq_self_eq_true _)]
theorem Own.kit_ty (o : Own K mg x C) {T : String} (h : PySem.W.subIn K (.type T) (.ref C) = some false) : PySem.W.kitOne K (.type T) (.ref C) = some false := by
  have e : ((PySem.W.clsIn K C).isSome && PySem.W.typeIn K (.ref C) == some (.type "type")) = true := by
    have a : (PySem.W.clsIn K C).isSome = true := o.ci
    rw [a, o.ct]
    rfl
  show (if _ then _ else (if _ then _ else none)) = some false
  rw [if_neg (fun z => by cases z), if_pos e]
  exact h
theorem sub_tup : PySem.W.subIn K (.type "tuple") (.ref C) = some false := rfl
theorem sub_non : PySem.W.subIn K (.type "NoneType") (.ref C) = some false := rfl
/-- isinstance(x, C) of an instance, a tuple, None -/
theorem isi_self (o : Own K mg x C) {a dx : Addr} {fs : List (Str × V)} {Q : VK} (h : H a = some (.ins C dx fs)) (q : Q (.bl true) H) : rIsi K [.ref a, .ref C] H Q :=
  ⟨_, _, _, _, true, rfl, .own _, o.ty h, o.kit_self, q⟩
theorem isi_tup_own (o : Own K mg x C) {a : Addr} {xs : List V} {Q : VK} (h : H a = some (.tup xs)) (q : Q (.bl false) H) : rIsi K [.ref a, .ref C] H Q :=
  ⟨_, _, _, _, false, rfl, .own _, .base (.tup h), o.kit_ty sub_tup, q⟩
theorem isi_non_own (o : Own K mg x C) {Q : VK} (q : Q (.bl false) H) : rIsi K [.non, .ref C] H Q :=
  ⟨_, _, _, _, false, rfl, .own _, .base .non, o.kit_ty sub_non, q⟩
/-- how an instance with two attributes is made -/
theorem made2 {f g : Str} {C a dx : Addr} {x y : V} {H : Hp} (ha : H a = none) (hd : H dx = none) (n : dx ≠ a) : Same H (upd (upd (upd H dx (.own a)) a (.ins C dx [])) a (.ins C dx [(f, x), (g, y)])) := fun b o e => by
  rw [upd_ne (ne_of_none e ha), upd_ne (ne_of_none e ha), upd_ne (ne_of_none e hd)]
  exact e
theorem upd_at {a : Addr} {u : HO} : upd H a u a = some u := upd_same
end
end Gen
set_option Elab.async false
set_option linter.all false
set_option maxRecDepth 100000
set_option maxHeartbeats 4000000

/-! ### coins that serve, greatest first -/
namespace Gen
open PySem PySem.Spec PyProof.Rows L2
section
variable {X : Cx} {n : Nat} {f C : Addr} {fd : FuncData} {ps : List Str} {sp : Sp}
/-- the same, K named (within a comprehension) -/
theorem op_eqK {K : PySem.W.Frag} (hK : X.K = K) (F : FnOk X.prog X.w X.K X.mg X.base CX0 n f fd ps sp) (hb : L2.Binds X.K fd ps []) (hs : PySem.W.findIn X.K (.ref C) "__eq__" = some (some (.ref f))) (hf : PySem.W.isFn X.K (.ref f) = true) (hr : Room n X.A) :
    OpR X (compareOp .Eq) (rOwnEq K C sp false) := hK ▸ op_eqI F hb hs hf hr
theorem op_neK {K : PySem.W.Frag} (hK : X.K = K) (F : FnOk X.prog X.w X.K X.mg X.base CX0 n f fd ps sp) (hb : L2.Binds X.K fd ps []) (hs : PySem.W.findIn X.K (.ref C) "__ne__" = some (some (.builtin "object.__ne__"))) (he : PySem.W.findIn X.K (.ref C) "__eq__" = some (some (.ref f)))
    (hf : PySem.W.isFn X.K (.ref f) = true) (hm : PySem.W.mroIn X.K C (.type "object") = some true) (hr : Room (n + 1) X.A) : OpR X (compareOp .NotEq) (rOwnEq K C sp true) := hK ▸ op_neI F hb hs he hf hm hr
end
def Srv (p : Int) : Int → List Int → Prop
  | _, [] => True
  | r, c :: cs => c ≤ room p r ∧ Srv p (r + c) cs
def insI (c : Int) : List Int → List Int
  | [] => [c]
  | d :: ds => if c ≤ d then c :: d :: ds else d :: insI c ds
theorem insI_perm (c : Int) : ∀ l : List Int, (insI c l).Perm (c :: l)
  | [] => .refl _
  | d :: ds => by
    unfold insI
    split
    · exact .refl _
    · exact ((insI_perm c ds).cons d).trans (List.Perm.swap c d ds)
theorem insI_mem {c x : Int} {l : List Int} (h : x ∈ insI c l) : x = c ∨ x ∈ l := List.mem_cons.mp ((insI_perm c l).subset h)
theorem insI_sorted {c : Int} : ∀ {l : List Int}, l.Pairwise (· ≤ ·) → (insI c l).Pairwise (· ≤ ·)
  | [], _ => List.pairwise_cons.mpr ⟨fun _ h => absurd h List.not_mem_nil, List.Pairwise.nil⟩
  | d :: ds, h => by
    obtain ⟨h1, h2⟩ := List.pairwise_cons.mp h
    unfold insI
    split
    · rename_i e
      refine List.pairwise_cons.mpr ⟨fun x hx => ?_, h⟩
      rcases List.mem_cons.mp hx with rfl | hx
      · exact e
      · exact Int.le_trans e (h1 x hx)
    · rename_i e
      refine List.pairwise_cons.mpr ⟨fun x hx => ?_, insI_sorted h2⟩
      rcases insI_mem hx with rfl | hx
      · omega
      · exact h1 x hx
theorem room_mono {p r s : Int} (hp : 2 ≤ p) (h : r ≤ s) : room p r ≤ room p s := by
  unfold room
  have := Int.ediv_le_ediv (c := p - 1) (by omega) h
  omega
theorem Srv.mono {p : Int} (hp : 2 ≤ p) : ∀ {l : List Int} {r s : Int}, r ≤ s → Srv p r l → Srv p s l
  | [], _, _, _, _ => True.intro
  | c :: cs, r, s, h, ⟨h1, h2⟩ => ⟨Int.le_trans h1 (room_mono hp h), Srv.mono hp (by omega) h2⟩
theorem Srv.ins {p c : Int} (hp : 2 ≤ p) (c0 : 0 ≤ c) : ∀ {l : List Int} {r : Int}, Srv p r l → c ≤ room p (r + l.sum) → Srv p r (insI c l)
  | [], r, _, h => by
    rw [List.sum_nil, Int.add_zero] at h
    exact ⟨h, True.intro⟩
  | d :: ds, r, ⟨h1, h2⟩, h => by
    unfold insI
    split
    · rename_i e
      refine ⟨by omega, Int.le_trans h1 (room_mono hp (by omega)), ?_⟩
      exact Srv.mono hp (by omega) h2
    · rw [List.sum_cons, ← Int.add_assoc] at h
      exact ⟨h1, Srv.ins hp c0 h2 h⟩
theorem room_pos {p r : Int} (hp : 2 ≤ p) (r0 : 0 ≤ r) : 1 ≤ room p r := by
  unfold room
  have := Int.ediv_nonneg r0 (show 0 ≤ p - 1 by omega)
  omega
theorem grow_front {p : Int} : ∀ (k : Nat) (a : Int), grow p (k + 1) a = grow p k (a + room p a)
  | 0, _ => rfl
  | k + 1, a => by
    show grow p (k + 1) a + room p (grow p (k + 1) a) = grow p k (a + room p a) + room p (grow p k (a + room p a))
    rw [grow_front k a]
theorem grow_add {p : Int} (hp : 2 ≤ p) : ∀ (k : Nat) {a : Int}, 0 ≤ a → a + k ≤ grow p k a
  | 0, a, _ => by show a + (0 : Nat) ≤ a; omega
  | k + 1, a, h => by
    have h1 := grow_add hp k h
    have h2 := room_pos hp (show 0 ≤ grow p k a by omega)
    show a + ((k + 1 : Nat) : Int) ≤ grow p k a + room p (grow p k a)
    omega
/-- a step of the greatest coins first -/
theorem coin_step {p t l c : Int} {k : Nat} (hp : 2 ≤ p) (h1 : (k : Int) + 1 ≤ l) (h2 : l ≤ t) (h3 : t ≤ grow p (k + 1) (t - l)) (hc : c = if l - k < room p (t - l) then l - k else room p (t - l)) :
    1 ≤ c ∧ c ≤ room p (t - l) ∧ (k : Int) ≤ l - c ∧ t ≤ grow p k (t - (l - c)) := by
  have r0 := room_pos hp (show 0 ≤ t - l by omega)
  by_cases e : l - k < room p (t - l)
  · rw [if_pos e] at hc
    have g := grow_add hp k (show 0 ≤ t - (l - c) by omega)
    refine ⟨by omega, by omega, by omega, by omega⟩
  · rw [if_neg e] at hc
    rw [grow_front] at h3
    have e2 : t - (l - c) = t - l + room p (t - l) := by omega
    rw [e2]
    exact ⟨by omega, by omega, by omega, h3⟩
theorem srv_up {p c r : Int} (p0 : 2 ≤ p) (p1 : p ≤ 5) (h : c ≤ room p r) : ¬ (r + c + p - 1) / p < c := by
  unfold room at h
  have e : p = 2 ∨ p = 3 ∨ p = 4 ∨ p = 5 := by omega
  rcases e with rfl | rfl | rfl | rfl <;> omega
theorem sum_perm {a b : List Int} (h : a.Perm b) : a.sum = b.sum := by
  induction h with
  | nil => rfl
  | cons x _ ih => rw [List.sum_cons, List.sum_cons, ih]
  | swap x y l => simp only [List.sum_cons]; omega
  | trans _ _ h1 h2 => exact h1.trans h2
/-- coins so far, in some order: sorted they serve -/
structure Good (p t l : Int) (ns : List Int) : Prop where
  pos : ∀ n, n ∈ ns → 1 ≤ n
  sum : ns.sum = t - l
  srt : ∃ ms : List Int, ms.Perm ns ∧ ms.Pairwise (· ≤ ·) ∧ Srv p 0 ms
theorem Good.nil {p t : Int} : Good p t t [] := ⟨fun _ h => absurd h List.not_mem_nil, by rw [List.sum_nil]; omega, [], .refl _, List.Pairwise.nil, True.intro⟩
theorem Good.put {p t l c : Int} {ns : List Int} (hp : 2 ≤ p) (g : Good p t l ns) (c1 : 1 ≤ c) (c2 : c ≤ room p (t - l)) : Good p t (l - c) (ns ++ [c]) := by
  obtain ⟨ms, h1, h2, h3⟩ := g.srt
  have es : ms.sum = t - l := by rw [sum_perm h1]; exact g.sum
  refine ⟨fun n hn => ?_, by rw [List.sum_append, g.sum]; simp; omega, insI c ms, (insI_perm c ms).trans ((h1.cons c).trans (List.perm_append_comm (l₁ := [c]))), insI_sorted h2, Srv.ins hp (by omega) h3 (by rw [es]; rwa [Int.zero_add])⟩
  rcases List.mem_append.mp hn with h | h
  · exact g.pos n h
  · rw [List.mem_singleton.mp h]; exact c1
theorem Good.out {p t l : Int} {ns ms : List Int} (g : Good p t l ns) (h1 : ms.Perm ns) (h2 : ms.Pairwise (· ≤ ·)) : Srv p 0 ms := by
  obtain ⟨ks, k1, k2, k3⟩ := g.srt
  rw [PySem.W.os_sorted_one (h1.trans k1.symm) h2 k2]
  exact k3
theorem dp_ints {K : PySem.W.Frag} {H : Hp} : ∀ ns : List Int, DpAll K H (ns.map V.int) (ns.map PyData.int)
  | [] => .nil
  | n :: ns => .cons (.int n) (dp_ints ns)
theorem eqv_ints : ∀ ns : List Int, PyData.eqvAll (ns.map PyData.int) (ns.map PyData.int) = true
  | [] => by simp [PyData.eqvAll]
  | n :: ns => by simp [PyData.eqvAll, PyData.eqv, eqv_ints ns]
theorem eq_ints {K : PySem.W.Frag} {H : Hp} {a b : Addr} {ns : List Int} {Q : VK} (ha : SqL K H a (ns.map V.int)) (hb : SqL K H b (ns.map V.int)) (q : Q (.bl true) H) : rEqD K (.ref a) (.ref b) H Q := by
  refine ⟨_, _, .lst ha (dp_ints ns), .lst hb (dp_ints ns), PySem.W.shaped_ints ns, PySem.W.shaped_ints ns, ?_⟩
  rw [show PyData.eqv (.list (ns.map PyData.int)) (.list (ns.map PyData.int)) = true by simp only [PyData.eqv]; exact eqv_ints ns]
  exact q
theorem ne_ints {K : PySem.W.Frag} {H : Hp} {a b : Addr} {ns : List Int} {Q : VK} (ha : SqL K H a (ns.map V.int)) (hb : SqL K H b (ns.map V.int)) (q : Q (.bl false) H) : rNeD K (.ref a) (.ref b) H Q := by
  refine ⟨_, _, .lst ha (dp_ints ns), .lst hb (dp_ints ns), PySem.W.shaped_ints ns, PySem.W.shaped_ints ns, ?_⟩
  rw [show PyData.eqv (.list (ns.map PyData.int)) (.list (ns.map PyData.int)) = true by simp only [PyData.eqv]; exact eqv_ints ns]
  exact q
theorem Srv.take {p : Int} : ∀ {ns : List Int} {r c : Int} {i : Nat}, Srv p r ns → ns[i]? = some c → c ≤ room p (r + (ns.take i).sum)
  | d :: ds, r, c, 0, h, e => by
    cases e
    rw [List.take_zero, List.sum_nil, Int.add_zero]
    exact h.1
  | d :: ds, r, c, i + 1, h, e => by
    rw [List.take_succ_cons, List.sum_cons, ← Int.add_assoc]
    exact Srv.take h.2 e
end Gen
set_option Elab.async false
set_option linter.all false
set_option maxRecDepth 100000
set_option maxHeartbeats 4000000
/-! ## enumerate over a list or a tuple -/
namespace Gen
open PySem PySem.Spec PyProof.Rows L2
/-- the object that enumerate(v) is, over the iterator that stands at i -/
abbrev enO (i : Addr) : Obj := { cls := .type "enumerate", data := .fields #[.none, .bool false, .ref i, rawInt 0, .none, .none] }
theorem meets_enum_newB {t : Addr} {o : Obj} {HH : Heap → Prop} (B : Begins (.ref t) o HH) :
    Meets (Builtin.«enumerate.__new__» ⟨[.type "enumerate", .ref t], []⟩) (fun _ R s => (HH s.heap ∧ ∃ u, s.heap.get? t = some u) ∧ R (.ok (.ret (.ref (s.heap.push o).objs.size))) { s with heap := (s.heap.push o).push (enO s.heap.objs.size) }) :=
  .of_wp fun prog w A R s h => by
    obtain ⟨hp, g, d, tk, os⟩ := s
    obtain ⟨⟨hh, u, hu⟩, h⟩ := h
    have kn := sub_enumerate
    have go : ∀ {A' : Around} {E' : Value → Shared → Prop} {Q' : Value → Shared → Prop}, Q' (.ref hp.objs.size) ⟨hp.push o, g, d, tk, os⟩ → wpAny (model prog w) A' (pyIter (.ref t)) Q' E' ⟨hp, g, d, tk, os⟩ := fun q => B.iter prog w _ _ ⟨hp, g, d, tk, os⟩ _ hh q
    wp_walk using AutoSeq1.wpAny_loadPart' hu
    refine wpAny_stack_any fun z => wpAny_pure ?_
    split
    · rename_i c _ _ _ _ _
      cases (c == Value.type "enumerate") <;>
      · wp_walk using AutoSeq1.wpAny_loadPart' hu, go
        exact ⟨_, rfl, h⟩
    · wp_walk using AutoSeq1.wpAny_loadPart' hu, go
      exact ⟨_, rfl, h⟩
section
variable {prog : Program} {w : World} {A : Around} {E : Value → Shared → Prop} {s : Shared}
theorem call_enum_tup {t : Addr} {items : Array Value} {Q : Value → Shared → Prop} (ht : s.heap.IsTuple t items)
    (h : ∀ h', IsEnum h' (s.heap.objs.size + 1) s.heap.objs.size 0 .none → h'.IsTupleIter s.heap.objs.size t 0 → (∀ b o, s.heap.get? b = some o → h'.get? b = some o) → Q (.ref (s.heap.objs.size + 1)) { s with heap := h' }) :
    wpAny (model prog w) A (call (.type "enumerate") [.ref t]) Q E s := by
  have ex : ∃ u, s.heap.get? t = some u := by obtain ⟨u, hu, _⟩ := ht; exact ⟨u, hu⟩
  refine callType_new F.called_enumerate (by decide) (F.typeCall_enumerate_1 _) (F.newCall_enumerate_1 _) (fun obj => F.args_object_init_2 obj _) F.entry_enumerate_new (meets_enum_newB (begins_tuple t items)) ⟨⟨ht, ex⟩, ?_⟩
  have z : ∀ ob : Obj, (s.heap.push ob).objs.size = s.heap.objs.size + 1 := fun ob => Heap.size_push ..
  show _ ∧ _
  rw [z]
  have he := Heap.get?_push_size (s.heap.push { cls := .type "tuple_iterator", data := .fields #[.ref t, .int 0 0] }) (o := enO s.heap.objs.size) rfl
  rw [z] at he
  exact ⟨⟨_, he, rfl⟩, h _ he ⟨_, Heap.get?_push_of_some _ (Heap.get?_push_size _ rfl), rfl, rfl⟩ fun b o x => Heap.get?_push_of_some _ (Heap.get?_push_of_some _ x)⟩
end
/-- the tuple at a as it stands, each of its things in a new pair with its place -/
def Itp (K : PySem.W.Frag) (a : Addr) : It where
  go i H := ∃ (xs : List V) (x : V), SqT K H a xs ∧ xs[i]? = some x
  yld i H v H' := ∃ T x, v = .ref T ∧ H T = none ∧ H' = upd H T (.tup [.int (i : Nat), x]) ∧ ∀ xs, SqT K H a xs → xs[i]? = some x
  stop i H := ∃ xs : List V, SqT K H a xs ∧ xs.length ≤ i
theorem draws_end {P : Program} {w : World} {A : Around} (hh : A.handled = none) (it t : Addr) (items : Array Value) (i : Nat) (hi : items.size ≤ i) :
    Draws P w A it [it, t] i (fun _ _ => True) (fun j h => j = i ∧ h.IsTupleIter it t j ∧ h.IsTuple t items) where
  live := fun _ _ st => let ⟨ob, hob, _⟩ := st.2.1; ⟨ob, hob⟩
  frame := fun _ _ _ st hk => ⟨st.1, st.2.1.at fun ob q => hk it (by simp) ob q, st.2.2.at fun ob q => hk t (by simp) ob q⟩
  item := fun j s Q E hj st _ => absurd st.1 (Nat.ne_of_lt hj)
  done := fun s Q E st hE => wpAny_nextOf_tuple_end hh st.2.1 st.2.2 (by simp [hi]) hE
theorem turn_enumT {P : Program} {w : World} {K : PySem.W.Frag} {xs0 : List Expr} {k0 : Nat} {ps0 : Pos} (a e it : Addr) :
    Turn P w K (.Tuple xs0 k0 ps0) (Itp K a) [e, it] e (fun i h => (∃ last, IsEnum h e it ((i : Nat) : Int) last) ∧ h.IsTupleIter it a i ∧ e ≠ it) where
  mem := List.mem_cons_self
  obj := by
    rintro i h ⟨⟨last, q1⟩, ⟨ob, q2, _, q3⟩, _⟩ b hb
    rcases List.mem_cons.mp hb with rfl | z
    · exact ⟨_, q1, fun v n => nomatch n⟩
    · rw [List.mem_singleton] at z
      exact ⟨ob, z ▸ q2, fun v n => by rw [q3] at n; cases n⟩
  keep := by
    rintro i h h' ⟨⟨last, q1⟩, q2, q3⟩ k
    exact ⟨⟨last, k e (by simp) _ q1⟩, q2.at fun ob q => k it (by simp) ob q, q3⟩
  item := by
    intro X hP hw hK hc i pins s z H E I hf st hg
    subst hP hw hK
    obtain ⟨⟨last, q1⟩, q2, ne⟩ := st
    obtain ⟨xs, x, hq, hx⟩ := hg
    obtain ⟨its, rv, pt, _⟩ := I.tuple hq
    obtain ⟨u, hu, ru⟩ := rv.get hx
    have lte : e < s.heap.objs.size := Heap.lt_size q1
    have lti : it < s.heap.objs.size := by obtain ⟨_, q, _⟩ := q2; exact Heap.lt_size q
    have ht : s.heap.IsTuple a its.toArray := pt
    have nai : a ≠ it := by
      obtain ⟨o1, g1, g2, _⟩ := ht
      obtain ⟨o2, g3, g4, _⟩ := q2
      intro y
      rw [y, g3] at g1
      cases g1
      rw [g4] at g2
      exact absurd g2 (by decide)
    have nea : e ≠ a := by
      obtain ⟨o1, g1, g2, _⟩ := ht
      intro y
      rw [← y, q1] at g1
      cases g1
      exact absurd (show Value.type "enumerate" = Value.type "tuple" from g2) (by decide)
    have hlt : i < its.toArray.size := by
      have l1 := (List.getElem?_eq_some_iff.mp hu).1
      simpa using l1
    refine wpAny_pyNext_enum_itemD (Draws.tuple (A := X.A.in1) (I.ok.hd hc) it a nai its.toArray) q1 ⟨q2, ht⟩ hlt ne (by simp [ne, nea]) fun y h' tk hy ho st' hT _ hk => ?_
    have ey : y = u := by
      have hy' : its.toArray[i]? = some y := hy
      rw [List.getElem?_toArray, hu] at hy'
      exact (Option.some.inj hy').symm
    subst ey
    refine ⟨_, rfl, wpAny_letOwnedTupleGo_enum (s := { s with heap := h', toks := tk + 1 }) ho fun h2 he2 sb => ?_⟩
    have hT2 : h2.get? s.heap.objs.size = some { cls := .type "tuple", data := .seq #[.int i tk, y] } := (sb.2 _ (Nat.ne_of_gt lte)).trans hT
    have new : ObjOk X.prog X.w (upd H s.heap.objs.size (.tup [.int (i : Nat), x])) h2 s.heap.objs.size (.tup [.int (i : Nat), x]) :=
      ⟨(show 2 ≤ sizeLine by decide), [.int i tk, y], .cons ⟨_, rfl⟩ (.cons ru .nil), ⟨_, hT2, rfl, _, rfl⟩⟩
    have old : ∀ b ob, b ∉ [e, it] → s.heap.get? b = some ob → h2.get? b = some ob := fun b ob hb q =>
      (sb.2 b fun n => hb (by simp [n])).trans (hk b ob (fun n => hb (by simp [n])) (fun n => hb (by simp [n])) q)
    have J := I.turnedNew (t' := tk + 1) (ch := [e, it]) old hf (Nat.le_refl _) new
    refine ⟨.ref s.heap.objs.size, _, J, rfl, ⟨_, x, rfl, I.hok.fresh (Nat.le_refl _), rfl, fun ys hy2 => by rw [I.tuple_inj hy2 hq]; exact hx⟩, ⟨⟨y, ?_⟩, st'.1.at fun ob q => (sb.2 it ne.symm).trans q, ne⟩, fun b hb => ?_⟩
    · have e1 : ((i + 1 : Nat) : Int) = (i : Int) + 1 := by omega
      exact e1 ▸ he2
    · have lb : b < s.heap.objs.size := by
        rcases List.mem_cons.mp hb with n | n
        · exact n ▸ lte
        · rw [List.mem_singleton.mp n]
          exact lti
      rw [upd_ne (Nat.ne_of_lt lb)]
      exact (hf b hb).1
  done := by
    intro X hP hw hK hc i pins s z H E I hf st hg
    subst hP hw hK
    obtain ⟨⟨last, q1⟩, q2, ne⟩ := st
    obtain ⟨xs, hq, hx⟩ := hg
    obtain ⟨its, rv, pt, _⟩ := I.tuple hq
    obtain ⟨f0, f1, f2, f3, f4, f5⟩ := hf it (by simp)
    have ln := rv.length
    exact wpAny_pyNext_enum_endD (draws_end (A := X.A.in1) (I.ok.hd hc) it a its.toArray i (by simp; omega)) q1 ⟨rfl, q2, pt⟩ fun h' eb => ⟨rfl, I.turned (t' := s.toks) (fun b ob hb q => eb b ob hb q) f0 f1 f3 f4 f5⟩
  self := by
    rintro A i s Q E ⟨⟨_, q1⟩, _⟩ h
    exact wpAny_pyIter_enum q1 h
/-- enumerate(v), v a list or a tuple -/
def iEnumE (K : PySem.W.Frag) (ta : TA) : TI := fun z H R => ta z H fun vs H1 => ∃ (a : Addr) (xs : List V), vs = [.ref a] ∧ ((SqL K H1 a xs ∧ R (Ite K a) H1) ∨ (SqT K H1 a xs ∧ R (Itp K a) H1))
theorem pi_enumE {X : Cx} {e : Expr} {ta : TA} {p pos ps0 : Pos} {xs0 : List Expr} {k0 : Nat} (hg : Gl X "enumerate") (hm : X.mg "enumerate" = none) (ha : PA X [e] ta) (hst : starEach [e] X.env = [(false, eval e X.env)] := by rfl) :
    PI X (.Tuple xs0 k0 ps0) (.Call (.Name "enumerate" p) [e] [] pos) (iEnumE X.K ta) := by
  refine ⟨fun pins s z H R I h => ?_⟩
  refine Call_ (ld_blt I hg hm boot_enumerate (PyProof.Rows.callWith_type1 (thn (ha.run pos pins s z H _ I h) fun us s1 ⟨vs, H1, I1, r1, q1⟩ => ?_) hst rfl))
  obtain ⟨a, xs, rfl, hq⟩ := q1
  rw [Vals.ref1 r1]
  have far : ∀ b, b ∈ [s1.heap.objs.size + 1, s1.heap.objs.size] → s1.heap.objs.size ≤ b := by
    intro b hb
    rcases List.mem_cons.mp hb with n | n
    · omega
    · rw [List.mem_singleton] at n
      omega
  rcases hq with ⟨hq, q⟩ | ⟨hq, q⟩
  · obtain ⟨its, rv, pl, _⟩ := I1.list hq
    refine call_enumerate_list pl.isList fun h' g1 g2 _ hk => wpAny_pyIter_enum g1 ?_
    have J := I1.kept (t' := s1.toks) hk
    exact ⟨s1.heap.objs.size + 1, [s1.heap.objs.size + 1, s1.heap.objs.size], _, _, H1, rfl, J, turn_enum a (s1.heap.objs.size + 1) s1.heap.objs.size, ⟨⟨.none, g1⟩, g2, Nat.succ_ne_self _⟩, fun b hb => I1.fpOk (far b hb) (I1.hok.fresh (far b hb)), q⟩
  · obtain ⟨its, rv, pt, _⟩ := I1.tuple hq
    refine call_enum_tup (show s1.heap.IsTuple a its.toArray from pt) fun h' g1 g2 hk => wpAny_pyIter_enum g1 ?_
    have J := I1.kept (t' := s1.toks) hk
    exact ⟨s1.heap.objs.size + 1, [s1.heap.objs.size + 1, s1.heap.objs.size], _, _, H1, rfl, J, turn_enumT a (s1.heap.objs.size + 1) s1.heap.objs.size, ⟨⟨.none, g1⟩, g2, Nat.succ_ne_self _⟩, fun b hb => I1.fpOk (far b hb) (I1.hok.fresh (far b hb)), q⟩
/-- for k, x in enumerate(t), t a tuple -/
theorem for_enumT {K : PySem.W.Frag} {a : Addr} {xs : List V} {g : TG} {tb : TS} {D : Ends} {z0 : L2.St} {H : Hp} (Pv : Nat → L2.St → Hp → Prop) (h0 : Pv 0 z0 H) (hl : ∀ i z h, i ≤ xs.length → Pv i z h → SqT K h a xs)
    (hs : ∀ i x T z h, xs[i]? = some x → h T = none → Pv i z h → g (.ref T) z (upd h T (.tup [.int (i : Nat), x])) fun z2 h2 => tb { D with nx := Pv (i + 1), ct := Pv (i + 1), bk := D.nx } z2 h2) (hd : ∀ z h, Pv xs.length z h → D.nx z h) :
    ∃ W : Nat → Nat → L2.St → Hp → Prop, (∃ m, W 0 m z0 H) ∧ ∀ i m z h, W i m z h →
      ((Itp K a).stop i h ∧ D.nx z h) ∨ ((Itp K a).go i h ∧ ∃ N : L2.St → Hp → Prop, (∀ z' h', N z' h' → ∃ m', m' < m ∧ W (i + 1) m' z' h') ∧ ∀ x h', (Itp K a).yld i h x h' → g x z h' fun z2 h2 => tb { D with nx := N, ct := N, bk := D.nx } z2 h2) := by
  refine ⟨fun i m z h => m = xs.length - i ∧ i ≤ xs.length ∧ Pv i z h, ⟨xs.length, by simp, Nat.zero_le _, h0⟩, ?_⟩
  rintro i m z h ⟨rfl, hi, p⟩
  have q := hl i z h hi p
  by_cases hlt : i < xs.length
  · refine .inr ⟨⟨xs, xs[i], q, by simp [hlt]⟩, Pv (i + 1), fun z' h' p' => ⟨xs.length - (i + 1), by omega, rfl, hlt, p'⟩, fun v h' y => ?_⟩
    obtain ⟨T, x, rfl, hT, rfl, hx⟩ := y
    exact hs i x T z h (hx xs q) hT p
  · obtain rfl : i = xs.length := by omega
    exact .inl ⟨⟨xs, q, Nat.le_refl _⟩, hd z h p⟩
end Gen
set_option Elab.async false
set_option linter.all false
set_option maxRecDepth 100000
set_option maxHeartbeats 4000000
/-! ## tuple.count of ints -/
namespace Gen
open PySem PySem.Spec PyProof.Rows L2
section
variable {X : Cx}
def rCntT (K : PySem.W.Frag) : V → List V → Hp → VK → Prop := fun x xs H Q => ∃ (p : Addr) (ns : List Int) (k : Int), x = .ref p ∧ xs = [.int k] ∧ SqT K H p (ns.map V.int) ∧ Q (.int (ns.count k : Nat)) H
theorem mt_tcount : MtR X "tuple.count" (rCntT X.K) := by
  intro pins s z H x xs v us Q I rx rxs h
  obtain ⟨p, ns, k, rfl, rfl, hs, q⟩ := h
  cases rx
  obtain ⟨u, rfl, ru⟩ := rxs.one
  obtain ⟨t, rfl⟩ := ru
  obtain ⟨its, rv, hl, hz⟩ := I.tuple hs
  obtain ⟨⟨cls, dd, data, sl⟩, ho, hc, n, hd⟩ := hl
  simp only at hc hd
  subst hc hd
  have hi := rv.ints
  refine call_meets PySem.F.slot_tuple_count ⟨_, ho, rfl⟩ PySem.F.entry_tuple_count (PySem.F.args_tuple_count_2 _ _)
    (SeqAt.tuple_countAt p its.toArray n dd sl (.int k t) (eqk k)) ⟨ho, fun y hy => (eqk_gives hi y (by simpa using hy)).at _ _, ?_⟩
  have ec : its.toArray.toList.countP (eqk k) = ns.count k := eqk_count hi
  refine ⟨.int (ns.count k : Nat), H, I.tok _, ⟨s.toks, ?_⟩, q⟩
  show Value.int ((its.toArray.toList.countP (eqk k) : Nat) : Int) s.toks = Value.int ((ns.count k : Nat) : Int) s.toks
  rw [ec]
/-- a tuple that is known to be a plain one -/
def TupN (H : Hp) (a : Addr) (xs : List V) : Prop := ∃ o : Obj, H a = some (.frz o (.tup xs)) ∧ o.cls = .type "tuple" ∧ o.dict = none
theorem TupN.sq {K : PySem.W.Frag} {H : Hp} {a : Addr} {xs : List V} (h : TupN H a xs) : SqT K H a xs := by
  obtain ⟨o, e, _⟩ := h
  exact .inl (.inr ⟨o, e⟩)
theorem TupN.same {H H' : Hp} {a : Addr} {xs : List V} (h : TupN H a xs) (s : Same H H') : TupN H' a xs := by
  obtain ⟨o, e, r⟩ := h
  exact ⟨o, s _ _ e, r⟩
theorem TupN.at {o : Obj} {H : Hp} {a : Addr} {xs : List V} (h1 : o.cls = .type "tuple") (h2 : o.dict = none) : TupN (upd H a (.frz o (.tup xs))) a xs := ⟨o, upd_same, h1, h2⟩
theorem call_tuple_ofN : CallR X (.type "tuple") (fun xs H Q => ∃ p ys, xs = [.ref p] ∧ SqL X.K H p ys ∧ ∀ (l : Addr) (o : Obj), H l = none → o.cls = .type "tuple" → o.dict = none → Q (.ref l) (upd H l (.frz o (.tup ys)))) := by
  intro pins s σ H xs us Q I r h
  obtain ⟨p, ys, rfl, hq, q⟩ := h
  rw [Vals.ref1 r]
  obtain ⟨its, r', pl, hz⟩ := I.list hq
  have hlen := r'.length
  refine call_tuple_list pl.isList (fun h' kp => ?_) (by simp only [List.size_toArray] <;> omega)
  have I1 : Inv X pins σ H { s with heap := h' } := I.kept (t' := s.toks) kp
  have I2 : Inv X pins σ (upd H h'.objs.size (.frz { cls := .type "tuple", data := .seq its.toArray } (.tup ys))) { s with heap := h'.push { cls := .type "tuple", data := .seq its.toArray } } :=
    I1.laid (t' := s.toks) (fun b o e => Heap.get?_push_of_some _ e) (Nat.le_refl _) (show ObjOk X.prog X.w _ _ _ (.frz _ (.tup ys)) from ⟨Heap.get?_push_size _ rfl, hz, its, r', IsTup.new _ _⟩)
  exact ⟨.ref h'.objs.size, _, I2, rfl, q _ _ (I1.hok.fresh (Nat.le_refl _)) rfl rfl⟩
def tTM (r : V → List V → Hp → VK → Prop) (to : TE) (t : TA) : TE := fun σ H Q => to σ H fun x H1 => (∃ p xs, x = .ref p ∧ TupN H1 p xs) ∧ t σ H1 fun xs H2 => r x xs H2 Q
variable {o e : Expr} {es : List Expr} {to : TE} {t : TA} {name : Str} {apos cpos : Pos} {id : String} {r : V → List V → Hp → VK → Prop}
theorem pe_tm (pa : PlainAttrs "tuple") (slot : Slot "tuple" name id) (hty : typeOf (.builtin id) = pure (.type "method_descriptor")) (hm : MtR X id r) (ho : PE X o to) (ha : PA X (e :: es) t)
    (hbase : attributeBase o name X.env (eval o X.env) = eval o X.env := by rfl)
    (hfew : ((backTo cpos (starEach (e :: es) X.env)).all (fun x => !x.1) && (backToKw cpos (keywordEach [] X.env)).all (fun x => x.1.isSome)
      && decide ((e :: es).length + ([] : List Keyword).length + (if ([] : List Keyword).isEmpty then 0 else 1) < 30)) = true := by rfl)
    (hline : (apos.endLine == cpos.line) = true := by rfl) (hs : starEach (e :: es) X.env = (false, eval e X.env) :: starEach es X.env := by rfl) (hplain : (backTo cpos (starEach es X.env)).any (·.1) = false := by rfl) :
    PE X (.Call (.Attribute o name apos) (e :: es) [] cpos) (tTM r to t) := by
  refine ⟨fun pins s σ H Q I h => ?_⟩
  refine wpAny_Call_method_late hbase hfew hline rfl (thn (ho.run pins s σ H _ I h) fun v s1 ⟨x, H1, I1, r1, ty, q1⟩ => ?_)
  obtain ⟨p, xs, ex, hp⟩ := ty
  subst ex
  obtain ⟨ob, ea, hc, hd⟩ := hp
  cases r1
  obtain ⟨eo, _⟩ := (show ObjOk X.prog X.w H1 s1.heap p (.frz ob (.tup xs)) from I1.hok p _ ea)
  refine ⟨"tuple", id, pa, slot, hty, ⟨ob, eo, hc⟩, fun a e2 => ?_, ?_⟩
  · cases e2
    exact ⟨ob, eo, hd⟩
  · have hA := ha.run cpos pins s1 σ H1 _ I1 q1
    rw [hs] at hA ⊢
    refine Calls.callWith_builtin (by show (false || (backTo cpos (starEach es X.env)).any (·.1)) = false; rw [hplain] <;> rfl) (Calls.evalArgs_plain ?_)
    exact thn hA fun us s2 ⟨vs, H2, I2, r2, q2⟩ => hm pins s2 σ H2 (.ref p) vs (.ref p) us Q I2 rfl r2 q2
theorem mt_tcountK {K : PySem.W.Frag} (hK : X.K = K) : MtR X "tuple.count" (rCntT K) := hK ▸ mt_tcount
end
end Gen
set_option Elab.async false
set_option linter.all false
set_option maxRecDepth 100000
set_option maxHeartbeats 4000000
/-! ## set(list of ints), sorted(set) of any length -/
namespace Gen
open PySem PySem.Spec PyProof.Rows L2
@[reducible] def vacant (w : World) : Obj := { cls := Value.type "set", dict := none, data := .set #[] 0 (.fresh 0 0 (!w.params.followText "set-order")) }
section
variable {P : Program} {w : World} {A : Around} {E : Value → Shared → Prop} {s : Shared}
/-- set(l) of a list of ints, however many -/
theorem set_of_ints {l : Addr} {its : Array Value} (ns : List Int) {Q : Value → Shared → Prop} (nh : A.handled = none) (il : s.heap.IsList l its) (ii : IntsAre its.toList ns) (le : ns.length + 1 < scanBound)
    (done : ∀ (g : Heap) (tk c : Nat), SetR w g s.heap.objs.size (fun j => decide (j ∈ ns)) c → c ≤ ns.length → (∀ b o, s.heap.get? b = some o → g.get? b = some o) → Q (.ref s.heap.objs.size) { s with heap := g, toks := tk }) :
    wpAny (model P w) A (call (.type "set") [.ref l]) Q E s := by
  have ez : its.size = ns.length := by
    rw [← IntsAre.length ii, Array.length_toList]
  have ⟨c1, t1, em⟩ := F.called_set.mro
  have ea := F.called_set.made; have eb := F.called_set.sub
  refine wpAny_call (codeAny_of_tree (?_ : wpAny _ _ (callAny (.type "set") _) _ _ _))
  refine wpAny_pure ⟨Code.quiet_builtin _ (by decide +kernel), codeAny_builtin F.entry_type_call ?_⟩
  rw [Around.under_plain (weight_type_call_type "set" [.ref l] []) rfl]
  have ec := F.called_set.notType; have ed := F.called_set.canCreate
  have ef := F.typeCall_set_1 (.ref l)
  repeat any_goals first | assumption | wp_step
  refine codeAny_mono (code_set_led1 (.ref l) (E := E) (Q₁ := fun x s1 => x = .ref s.heap.objs.size ∧ s1 = { s with heap := s.heap.push (vacant w) }) ⟨rfl, rfl⟩) fun r s1 hr => ?_
  match r, hr with
  | .error e, hr => exact hr
  | .ok (.ret x), hr =>
    obtain ⟨rfl, rfl⟩ := hr
    have at0 : (s.heap.push (vacant w)).get? s.heap.objs.size = some (vacant w) := Heap.get?_push_size _ rfl
    have ty : Shared.TypeIs { s with heap := s.heap.push (vacant w) } (.ref s.heap.objs.size) "set" := ⟨_, at0, rfl⟩
    have eg := F.called_set.init.lookup; have eh := F.called_set.init.bind (.ref s.heap.objs.size)
    repeat any_goals first | assumption | wp_step
    refine codeAny_mono (codeAny_call_builtin (R := wants (fun r s2 => r = .none ∧ ∃ g tk c, s2 = { s with heap := g, toks := tk } ∧ SetR w g s.heap.objs.size (fun j => decide (j ∈ ns)) c ∧ c ≤ ns.length ∧
        (∀ b o, s.heap.get? b = some o → g.get? b = some o)) E) F.called_set.init.plain F.entry_set_init (check_set_init_1 ty ?_)) fun r2 s2 hr2 => ?_
    · obtain ⟨⟨kc, kd, kx, ks⟩, ho, kcl, nl, kdt⟩ := il
      simp only at kcl kdt
      subst kcl kdt
      have ho1 := Heap.get?_push_of_some (vacant w) ho
      have ua := F.sub_list_set; have ub := F.sub_list_frozenset
      have uc : (Value.type "list" == Value.type "dict") = false := by decide
      have il1 : (s.heap.push (vacant w)).IsList l its := ⟨_, ho1, rfl, nl, rfl⟩
      unfold Builtin.«set.__init__» noKeywords Builtin.Frozenset.updateFrom
      generalize pg : pyIter = PG
      wp_walk
      subst pg
      refine wpAny_pyIter_list il1 (wpAny_bind (wpAny_runValue ?_))
      have lt : l < s.heap.objs.size := Heap.lt_size ho
      have nh3 : A.in1.in1.in1.handled = none := by simpa using nh
      have sz : (s.heap.push (vacant w)).objs.size = s.heap.objs.size + 1 := Heap.size_push ..
      have ne : l ≠ (s.heap.push (vacant w)).objs.size := by rw [sz]; exact Nat.ne_of_lt (Nat.lt_succ_of_lt lt)
      have nf : s.heap.objs.size ∉ [(s.heap.push (vacant w)).objs.size, l] := by
        rw [sz]
        simp only [List.mem_cons, List.not_mem_nil, or_false, not_or]
        exact ⟨Nat.ne_of_lt (Nat.lt_succ_self _), Nat.ne_of_gt lt⟩
      have vals : ∀ (i : Nat) (v : Value), its[i]? = some v → ∃ k t, ns[i]? = some k ∧ v = .int k t := fun i v hv => by
        have il : i < ns.length := ez ▸ (Array.getElem?_eq_some_iff.mp hv).1
        obtain ⟨t, e⟩ := PyProof.Rows.IntsAre.int_at ii i v (by rw [Array.getElem?_toList]; exact hv)
        exact ⟨ns[i], t, List.getElem?_eq_getElem il, by rw [e, List.getD_eq_getElem?_getD, List.getElem?_eq_getElem il] <;> rfl⟩
      refine set_update_ints ((Walks.list nh3 _ l ne its).toS) s.heap.objs.size nf ns ez le vals (its.size - 0) 0 _ (by omega) (Nat.zero_le _) ⟨⟨_, Heap.get?_push_size _ rfl, rfl, rfl⟩, il1.push _⟩ ⟨0, Nat.le_refl 0, setR_new_at (Heap.get?_push_of_some _ at0)⟩ ?_
      intro s3 c3 hm hc3 R3
      obtain ⟨g3, gg, dd, tk3, oo⟩ := s3
      obtain rfl : gg = s.gens := hm.gens
      obtain rfl : dd = s.drawn := hm.drawn
      obtain rfl : oo = s.os := hm.os
      refine (wpAny_pure ?_ : wpAny _ _ _ _ _ _)
      show wpAny _ _ (ret .none) _ _ _
      rw [ez] at hc3
      refine wpAny_pure ⟨rfl, g3, tk3, c3, rfl, R3, hc3, fun b o e => ?_⟩
      have lb := Heap.lt_size e
      refine hm.heap b o (fun z => ?_) (Heap.get?_push_of_some _ (Heap.get?_push_of_some _ e))
      simp only [List.mem_cons, List.not_mem_nil, or_false] at z
      rcases z with z | z
      · exact Nat.ne_of_lt lb z
      · exact Nat.ne_of_lt (Nat.lt_succ_of_lt lb) (z.trans sz)
    · match r2, hr2 with
      | .error e, hr2 => exact hr2
      | .ok (.ret x), hr2 =>
        obtain ⟨rfl, g, tk, c, rfl, R, hc, keep⟩ := hr2
        repeat any_goals first | assumption | wp_step
        exact done _ _ _ R hc keep
/-- sorted(x) of a set of ints, however many -/
theorem sorted_ints_set {a : Addr} {S : Int → Bool} {n : Nat} {Q : Value → Shared → Prop} (R : SetR w s.heap a S n) (nh : A.handled = none)
    (done : ∀ (s1 : Shared) (g : Heap) (out : Array Value) (ep : Nat) (ns : List Int), (∀ b o, s.heap.get? b = some o → s1.heap.get? b = some o) → s1.gens = s.gens → s1.os = s.os → (∀ b o, s1.heap.get? b = some o → g.get? b = some o) → ns.length ≤ sizeLine →
      g.get? s1.heap.objs.size = some (seqObj "list" out ep) → IntsAre out.toList ns → ns.Pairwise (· < ·) → (∀ k, k ∈ ns ↔ S k = true) → Q (.ref s1.heap.objs.size) { s1 with heap := g }) :
    wpAny (model P w) A (call (.builtin "sorted") [.ref a]) Q E s := by
  obtain ⟨o, es, ep, t, ho, ex, ed, g, nd, mm, lb, fi, cn, ri, ll⟩ := R
  refine Calls.call_function_entry kind_sorted plain_sorted entry_sorted (args_sorted1 _) ?_
  rw [Builtin.«sorted»]
  refine wpAny_bind (m := checkCount "sorted" 1 1 _) (wpAny_pure ?_)
  refine wpAny_bind (collect_set nh ⟨o, ho, ex.1, ed⟩ fi lb ri ll fun s1 vs keep _ g1 o1 pm => ?_)
  have vi : IntsAre vs (vs.map Builtin.Re.reRawOf) := ints_of vs fun v hv => by
    obtain ⟨e, he, rfl⟩ := List.mem_map.mp (pm.mem_iff.mp hv)
    obtain ⟨k, tk, q, _⟩ := g e he
    exact ⟨k, tk, q⟩
  have pk : (vs.map Builtin.Re.reRawOf).Perm (es.toList.map keyOf) := by
    have z := pm.map Builtin.Re.reRawOf
    rwa [List.map_map] at z
  have vz : vs.length ≤ sizeLine := by
    rw [pm.length_eq, List.length_map, Array.length_toList]
    exact fits_of_scanBound lb
  refine wpAny_bind (wpAny_newList ?_ vz)
  have at0 : (s1.heap.push (seqObj "list" vs.toArray 0)).get? s1.heap.objs.size = some (seqObj "list" vs.toArray 0) := Heap.get?_push_size _ rfl
  refine wpAny_bind (wpAny_holding (wpAny_call_entry slot_list_sort ⟨_, at0, rfl⟩ entry_list_sort (list_sort_treeAny at0 vi vz fun out ns a1 a2 a3 => ⟨_, rfl, ?_⟩) (args_list_sort _)))
  obtain ⟨e, he⟩ := sortedHeap_at (out := out) at0
  exact wpAny_pure ⟨_, rfl, done s1 _ out e ns keep g1 o1 (fun b u hb => by
    have lt := Heap.lt_size hb
    rw [sortedHeap_old (Nat.ne_of_lt lt) (by rw [size_push']; exact Nat.lt_succ_of_lt lt)]
    exact Heap.get?_push_of_some _ hb) (by rw [a2.length_eq, List.length_map]; exact vz) he a1 ((a3.and ((a2.trans pk).nodup_iff.mpr nd)).imp fun ⟨x, y⟩ => Int.lt_iff_le_and_ne.mpr ⟨x, y⟩) (fun k => by rw [(a2.trans pk).mem_iff, ← mm k])⟩
end
section
variable {X : Cx}
def rSetOf (w : World) (K : PySem.W.Frag) : List V → Hp → VK → Prop := fun vs H Q => ∃ (a : Addr) (ns : List Int), vs = [V.ref a] ∧ SqE K H a (ns.map V.int) ∧ ns.length ≤ 1000 ∧ ∀ (p : Addr) (c : Nat), H p = none → Q (.ref p) (upd H p (SetO w p (fun j => decide (j ∈ ns)) c))
theorem cr_setOf (hc : X.calm = true) : CallR X (.type "set") (rSetOf X.w X.K) := by
  intro pins s z H vs us Q I r h
  obtain ⟨a, ns, rfl, hs, hn, q⟩ := h
  rw [Vals.ref1 r]
  rcases hs with hs | hs
  · obtain ⟨its, rv, hl, _⟩ := I.list hs
    exact set_of_ints ns (I.ok.hd hc) hl.isList rv.ints (by unfold scanBound; omega) fun g tk c R _ k => ⟨.ref _, upd H s.heap.objs.size (SetO X.w s.heap.objs.size (fun j => decide (j ∈ ns)) c), I.laid (t' := tk) k (Nat.le_refl _) (setO_new R), rfl, q _ _ (I.hok.fresh (Nat.le_refl _))⟩
  · obtain ⟨its, rv, hl, _⟩ := I.tuple hs
    exact call_set_tupI ns (I.ok.hd hc) (show s.heap.IsTuple a its.toArray from hl) rv.ints (by unfold scanBound; omega) fun g tk c R _ k => ⟨.ref _, upd H s.heap.objs.size (SetO X.w s.heap.objs.size (fun j => decide (j ∈ ns)) c), I.laid (t' := tk) k (Nat.le_refl _) (setO_new R), rfl, q _ _ (I.hok.fresh (Nat.le_refl _))⟩
def rSrtSet (w : World) : List V → Hp → VK → Prop := fun vs H Q => ∃ (a : Addr) (S : Int → Bool) (n : Nat), vs = [V.ref a] ∧ H a = some (SetO w a S n) ∧ ∀ (ns : List Int) (p : Addr), ns.Pairwise (· < ·) → (∀ k, k ∈ ns ↔ S k = true) → H p = none → Q (.ref p) (upd H p (.lst (ns.map V.int)))
theorem cr_srtSet (hc : X.calm = true) : CallR X (.builtin "sorted") (rSrtSet X.w) := by
  intro pins s z H vs us Q I r h
  obtain ⟨a, S, n, rfl, hs, q⟩ := h
  rw [Vals.ref1 r]
  refine sorted_ints_set (setO_get I hs) (I.ok.hd hc) fun s1 g out ep ns k1 g1 o1 k2 hz at_ i1 i2 i3 => ?_
  have I1 := I.call' (ch := []) o1 (Un.kept k1) (I.hok.kept k1) (by rw [g1]; exact I.bare) (fun _ z => nomatch z)
  exact ⟨.ref _, upd H s1.heap.objs.size (.lst (ns.map V.int)), I1.laid (t' := s1.toks) k2 (Nat.le_refl _) ⟨by rw [List.length_map]; exact hz, out.toList, ep, vals_of_ints i1, at_⟩, rfl, q ns _ i2 i3 (I1.hok.fresh (Nat.le_refl _))⟩
end
end Gen
set_option Elab.async false
set_option linter.all false
set_option maxRecDepth 100000
set_option maxHeartbeats 4000000
/-! ## The layer of data: what a value stands for, without the heap -/
namespace DL
open PySem PySem.Spec PyProof.Rows L2 Gen
/-- data: what a value stands for. hand: the law's hand; dk: some dict; raw: a value as it is -/
inductive D where
  | non | bl (b : Bool) | int (i : Int) | str (x : Str) | ty (n : String)
  | lst (xs : List D) | tup (xs : List D)
  | ins (C : Addr) (fs : List (Str × D))
  | hand | dk | raw (v : V)
  | exc (a : Addr) (cls : Value) (d : Option Addr) (C : Addr) (fs : List (Str × D))
abbrev DSt := List (Option D)
abbrev Ho := Option (Addr × Addr)
def off (ho : Ho) (a : Addr) : Prop := ∀ h q, ho = some (h, q) → a ≠ h
mutual
/-- a value stands for data; no list of it is at an address of N -/
inductive Rp (ho : Ho) (H : Hp) (N : Addr → Prop) : V → D → Prop
  | non : Rp ho H N .non .non
  | bl (b : Bool) : Rp ho H N (.bl b) (.bl b)
  | int (i : Int) : Rp ho H N (.int i) (.int i)
  | str (x : Str) : Rp ho H N (.str x) (.str x)
  | ty (n : String) : Rp ho H N (.ty n) (.ty n)
  | lst {a : Addr} {vs : List V} {ds : List D} (nN : ¬ N a) (of : off ho a) (e : H a = some (.lst vs)) (r : RpA ho H N vs ds) : Rp ho H N (.ref a) (.lst ds)
  | tup {a : Addr} {vs : List V} {ds : List D} {o : Obj} (of : off ho a) (e : H a = some (.frz o (.tup vs))) (hc : o.cls = .type "tuple") (hd : o.dict = none) (r : RpA ho H N vs ds) : Rp ho H N (.ref a) (.tup ds)
  | ins {a C dx : Addr} {fs : List (Str × V)} {gs : List (Str × D)} (of : off ho a) (e : H a = some (.ins C dx fs)) (r : RpF ho H N fs gs) : Rp ho H N (.ref a) (.ins C gs)
  | hand {h q : Addr} (e : ho = some (h, q)) : Rp ho H N (.ref h) .hand
  | dk {a : Addr} {kvs : List (Key × V)} (of : off ho a) (e : H a = some (.dK kvs)) : Rp ho H N (.ref a) .dk
  | raw (v : V) : Rp ho H N v (.raw v)
  | exc {a C dd : Addr} {cls : Value} {vs : List (Str × V)} {fs : List (Str × D)} (ec : cls = .ref C) (of : off ho dd) (e : H dd = some (.xd vs)) (r : RpF ho H N vs fs) : Rp ho H N (.ref a) (.exc a cls (some dd) C fs)
inductive RpA (ho : Ho) (H : Hp) (N : Addr → Prop) : List V → List D → Prop
  | nil : RpA ho H N [] []
  | cons {v : V} {d : D} {vs : List V} {ds : List D} (h : Rp ho H N v d) (t : RpA ho H N vs ds) : RpA ho H N (v :: vs) (d :: ds)
inductive RpF (ho : Ho) (H : Hp) (N : Addr → Prop) : List (Str × V) → List (Str × D) → Prop
  | nil : RpF ho H N [] []
  | cons {x : Str} {v : V} {d : D} {vs : List (Str × V)} {ds : List (Str × D)} (h : Rp ho H N v d) (t : RpF ho H N vs ds) : RpF ho H N ((x, v) :: vs) ((x, d) :: ds)
end
section
variable {ho : Ho} {H H' : Hp} {N N' : Addr → Prop}
mutual
theorem Rp.mono (k : ∀ a o, H a = some o → off ho a → H' a = some o) (n : ∀ a xs, H a = some (.lst xs) → N' a → N a) : ∀ {v : V} {d : D}, Rp ho H N v d → Rp ho H' N' v d
  | _, _, .non => .non
  | _, _, .bl b => .bl b
  | _, _, .int i => .int i
  | _, _, .str x => .str x
  | _, _, .ty x => .ty x
  | _, _, .lst nN of e r => .lst (fun z => nN (n _ _ e z)) of (k _ _ e of) (RpA.mono k n r)
  | _, _, .tup of e hc hd r => .tup of (k _ _ e of) hc hd (RpA.mono k n r)
  | _, _, .ins of e r => .ins of (k _ _ e of) (RpF.mono k n r)
  | _, _, .hand e => .hand e
  | _, _, .dk of e => .dk of (k _ _ e of)
  | _, _, .raw v => .raw v
  | _, _, .exc ec of e r => .exc ec of (k _ _ e of) (RpF.mono k n r)
theorem RpA.mono (k : ∀ a o, H a = some o → off ho a → H' a = some o) (n : ∀ a xs, H a = some (.lst xs) → N' a → N a) : ∀ {vs : List V} {ds : List D}, RpA ho H N vs ds → RpA ho H' N' vs ds
  | _, _, .nil => .nil
  | _, _, .cons h t => .cons (Rp.mono k n h) (RpA.mono k n t)
theorem RpF.mono (k : ∀ a o, H a = some o → off ho a → H' a = some o) (n : ∀ a xs, H a = some (.lst xs) → N' a → N a) : ∀ {vs : List (Str × V)} {ds : List (Str × D)}, RpF ho H N vs ds → RpF ho H' N' vs ds
  | _, _, .nil => .nil
  | _, _, .cons h t => .cons (Rp.mono k n h) (RpF.mono k n t)
end
end
mutual
/-- no list is in it -/
def D.noL : D → Bool
  | .lst _ => false
  | .tup xs => D.noLA xs
  | .ins _ fs => D.noLF fs
  | .exc _ _ _ _ fs => D.noLF fs
  | _ => true
def D.noLA : List D → Bool
  | [] => true
  | x :: xs => x.noL && D.noLA xs
def D.noLF : List (Str × D) → Bool
  | [] => true
  | (_, x) :: xs => x.noL && D.noLF xs
end
section
variable {ho : Ho} {H : Hp} {N N' : Addr → Prop}
mutual
theorem Rp.noL : ∀ {v : V} {d : D}, Rp ho H N v d → d.noL = true → Rp ho H N' v d
  | _, _, .non, _ => .non
  | _, _, .bl b, _ => .bl b
  | _, _, .int i, _ => .int i
  | _, _, .str x, _ => .str x
  | _, _, .ty x, _ => .ty x
  | _, _, .lst _ _ _ _, h => by simp [D.noL] at h
  | _, _, .tup of e hc hd r, h => .tup of e hc hd (RpA.noL r (by simpa [D.noL] using h))
  | _, _, .ins of e r, h => .ins of e (RpF.noL r (by simpa [D.noL] using h))
  | _, _, .hand e, _ => .hand e
  | _, _, .dk of e, _ => .dk of e
  | _, _, .raw v, _ => .raw v
  | _, _, .exc ec of e r, h => .exc ec of e (RpF.noL r (by simpa [D.noL] using h))
theorem RpA.noL : ∀ {vs : List V} {ds : List D}, RpA ho H N vs ds → D.noLA ds = true → RpA ho H N' vs ds
  | _, _, .nil, _ => .nil
  | _, _, .cons h t, e => by
    simp [D.noLA] at e
    exact .cons (Rp.noL h e.1) (RpA.noL t e.2)
theorem RpF.noL : ∀ {vs : List (Str × V)} {ds : List (Str × D)}, RpF ho H N vs ds → D.noLF ds = true → RpF ho H N' vs ds
  | _, _, .nil, _ => .nil
  | _, _, .cons h t, e => by
    simp [D.noLF] at e
    exact .cons (Rp.noL h e.1) (RpF.noL t e.2)
end
theorem RpA.length : ∀ {vs : List V} {ds : List D}, RpA ho H N vs ds → vs.length = ds.length
  | _, _, .nil => rfl
  | _, _, .cons _ t => by rw [List.length_cons, List.length_cons, t.length]
theorem RpA.get : ∀ {vs : List V} {ds : List D} {i : Nat} {v : V}, RpA ho H N vs ds → vs[i]? = some v → ∃ d, ds[i]? = some d ∧ Rp ho H N v d
  | _, _, _, _, .nil, e => by simp at e
  | _, _, 0, _, .cons h _, e => by simp at e; subst e; exact ⟨_, rfl, h⟩
  | _, _, i + 1, v, .cons _ t, e => by
    obtain ⟨d, h1, h2⟩ := RpA.get (i := i) (v := v) t (by simpa using e)
    exact ⟨d, by simpa using h1, h2⟩
theorem RpA.getD : ∀ {vs : List V} {ds : List D} {i : Nat} {d : D}, RpA ho H N vs ds → ds[i]? = some d → ∃ v, vs[i]? = some v ∧ Rp ho H N v d
  | _, _, _, _, .nil, e => by simp at e
  | _, _, 0, _, .cons h _, e => by simp at e; subst e; exact ⟨_, rfl, h⟩
  | _, _, i + 1, d, .cons _ t, e => by
    obtain ⟨v, h1, h2⟩ := RpA.getD (i := i) (d := d) t (by simpa using e)
    exact ⟨v, by simpa using h1, h2⟩
theorem RpA.append : ∀ {vs ws : List V} {ds es : List D}, RpA ho H N vs ds → RpA ho H N ws es → RpA ho H N (vs ++ ws) (ds ++ es)
  | _, _, _, _, .nil, s => s
  | _, _, _, _, .cons h t, s => .cons h (t.append s)
theorem RpA.take : ∀ {vs : List V} {ds : List D} (n : Nat), RpA ho H N vs ds → RpA ho H N (vs.take n) (ds.take n)
  | _, _, 0, _ => .nil
  | _, _, _ + 1, .nil => .nil
  | _, _, n + 1, .cons h t => .cons h (t.take n)
theorem RpA.drop : ∀ {vs : List V} {ds : List D} (n : Nat), RpA ho H N vs ds → RpA ho H N (vs.drop n) (ds.drop n)
  | _, _, 0, r => r
  | _, _, _ + 1, .nil => .nil
  | _, _, n + 1, .cons _ t => t.drop n
theorem RpA.set {v : V} {d : D} (h : Rp ho H N v d) : ∀ {vs : List V} {ds : List D} (i : Nat), RpA ho H N vs ds → RpA ho H N (vs.set i v) (ds.set i d)
  | _, _, _, .nil => .nil
  | _, _, 0, .cons _ t => .cons h t
  | _, _, i + 1, .cons q t => .cons q (RpA.set h i t)
theorem RpA.eraseIdx : ∀ {vs : List V} {ds : List D} (i : Nat), RpA ho H N vs ds → RpA ho H N (vs.eraseIdx i) (ds.eraseIdx i)
  | _, _, _, .nil => .nil
  | _, _, 0, .cons _ t => t
  | _, _, i + 1, .cons q t => .cons q (t.eraseIdx i)
theorem RpF.lookup {f : Str} : ∀ {vs : List (Str × V)} {ds : List (Str × D)} {d : D}, RpF ho H N vs ds → ds.lookup f = some d → ∃ v, vs.lookup f = some v ∧ Rp ho H N v d
  | _, _, _, .nil, e => by simp at e
  | _, _, d, .cons (x := x) h t, e => by
    rw [List.lookup_cons] at e ⊢
    cases q : f == x with
    | true => rw [q] at e; cases e; exact ⟨_, rfl, h⟩
    | false => rw [q] at e; exact RpF.lookup t e
theorem RpA.ints : ∀ {vs : List V} {ns : List Int}, RpA ho H N vs (ns.map D.int) → vs = ns.map V.int
  | _, [], .nil => rfl
  | _, _ :: _, .cons h t => by
    cases h
    rw [List.map_cons, t.ints]
theorem RpA.bls : ∀ {vs : List V} {ns : List Bool}, RpA ho H N vs (ns.map D.bl) → vs = ns.map V.bl
  | _, [], .nil => rfl
  | _, _ :: _, .cons h t => by
    cases h
    rw [List.map_cons, t.bls]
theorem RpA.ofInts : ∀ (ns : List Int), RpA ho H N (ns.map V.int) (ns.map D.int)
  | [] => .nil
  | n :: ns => .cons (.int n) (RpA.ofInts ns)
theorem RpA.ofBls : ∀ (ns : List Bool), RpA ho H N (ns.map V.bl) (ns.map D.bl)
  | [] => .nil
  | n :: ns => .cons (.bl n) (RpA.ofBls ns)
theorem noLA_ints : ∀ ns : List Int, D.noLA (ns.map D.int) = true
  | [] => rfl
  | n :: ns => by simp [D.noLA, D.noL, noLA_ints ns]
end
/-! ### heaps that keep what stood -/
structure Ext (ho : Ho) (H H' : Hp) : Prop where
  keep : ∀ a o, H a = some o → off ho a → H' a = some o
  hand : ∀ h q, ho = some (h, q) → HandAt H h q → HandAt H' h q
theorem Ext.refl {ho : Ho} {H : Hp} : Ext ho H H := ⟨fun _ _ e _ => e, fun _ _ _ h => h⟩
theorem Ext.trans {ho : Ho} {H1 H2 H3 : Hp} (a : Ext ho H1 H2) (b : Ext ho H2 H3) : Ext ho H1 H3 := ⟨fun c o e n => b.keep c o (a.keep c o e n) n, fun h q e x => b.hand h q e (a.hand h q e x)⟩
theorem Ext.of {ho : Ho} {H H' : Hp} (s : Same H H') : Ext ho H H' := ⟨fun a o e _ => s a o e, fun h q _ x => x.same s⟩
theorem Ext.new {ho : Ho} {H : Hp} {p : Addr} {o : HO} (hp : H p = none) : Ext ho H (upd H p o) := .of (Same.new hp)
theorem Rp.ext {ho : Ho} {H H' : Hp} {N : Addr → Prop} {v : V} {d : D} (r : Rp ho H N v d) (s : Ext ho H H') : Rp ho H' N v d := r.mono s.keep fun _ _ _ z => z
theorem RpA.ext {ho : Ho} {H H' : Hp} {N : Addr → Prop} {v : List V} {d : List D} (r : RpA ho H N v d) (s : Ext ho H H') : RpA ho H' N v d := r.mono s.keep fun _ _ _ z => z
theorem RpF.ext {ho : Ho} {H H' : Hp} {N : Addr → Prop} {v : List (Str × V)} {d : List (Str × D)} (r : RpF ho H N v d) (s : Ext ho H H') : RpF ho H' N v d := r.mono s.keep fun _ _ _ z => z
/-! ### the state of a def: slots, and the lists that slots own -/
/-- the fixed things: what may not be named, the hand, the heap at the entry -/
structure G where
  N : Addr → Prop
  ho : Ho
  H0 : Hp
def Mo (O : List Nat) (σ : L2.St) (δ : DSt) (a : Addr) : Prop := ∃ i d, i ∈ O ∧ σ[i]? = some (some (.ref a)) ∧ δ[i]? = some (some d)
abbrev NM (g : G) (O : List Nat) (σ : L2.St) (δ : DSt) (a : Addr) : Prop := g.N a ∨ Mo O σ δ a
structure Rel (g : G) (O : List Nat) (H : Hp) (σ : L2.St) (δ : DSt) : Prop where
  len : σ.length = δ.length
  base : Ext g.ho g.H0 H
  hand : ∀ h q, g.ho = some (h, q) → HandAt g.H0 h q
  nall : ∀ a, g.N a → g.H0 a ≠ none
  free : ∀ i d, i ∉ O → δ[i]? = some (some d) → ∃ v, σ[i]? = some (some v) ∧ Rp g.ho H (NM g O σ δ) v d
  own : ∀ i d, i ∈ O → δ[i]? = some (some d) → ∃ a vs ds, d = .lst ds ∧ σ[i]? = some (some (.ref a)) ∧ off g.ho a ∧ g.H0 a = none ∧ H a = some (.lst vs) ∧ RpA g.ho H (NM g O σ δ) vs ds
  apart : ∀ i j a d e, i ∈ O → j ∈ O → σ[i]? = some (some (.ref a)) → σ[j]? = some (some (.ref a)) → δ[i]? = some (some d) → δ[j]? = some (some e) → i = j
section
variable {g : G} {O : List Nat} {H H' : Hp} {σ : L2.St} {δ : DSt}
theorem Rel.handNow (r : Rel g O H σ δ) : ∀ h q, g.ho = some (h, q) → HandAt H h q := fun h q e => r.base.hand h q e (r.hand h q e)
theorem Rel.off_free (r : Rel g O H σ δ) {p : Addr} (hp : H p = none) : off g.ho p := fun h q e => (r.handNow h q e).off hp
theorem Rel.free0 (r : Rel g O H σ δ) {p : Addr} (hp : H p = none) : g.H0 p = none := by
  cases z : g.H0 p with
  | none => rfl
  | some o =>
    have := r.base.keep p o z (r.off_free hp)
    rw [hp] at this
    cases this
theorem Rel.notN (r : Rel g O H σ δ) {p : Addr} (hp : g.H0 p = none) : ¬ g.N p := fun z => r.nall p z hp
theorem Rel.ext (r : Rel g O H σ δ) (s : Ext g.ho H H') : Rel g O H' σ δ where
  len := r.len
  base := r.base.trans s
  hand := r.hand
  nall := r.nall
  free := fun i d n e => by
    obtain ⟨v, h1, h2⟩ := r.free i d n e
    exact ⟨v, h1, h2.ext s⟩
  own := fun i d n e => by
    obtain ⟨a, vs, ds, h1, h2, h3, h4, h5, h6⟩ := r.own i d n e
    exact ⟨a, vs, ds, h1, h2, h3, h4, s.keep _ _ h5 h3, h6.ext s⟩
  apart := r.apart
/-- what is new is no owned list -/
theorem Rel.newM (r : Rel g O H σ δ) {p : Addr} (hp : H p = none) : ¬ Mo O σ δ p := by
  rintro ⟨i, d, hi, e1, e2⟩
  obtain ⟨a, vs, ds, _, h2, _, _, h5, _⟩ := r.own i d hi e2
  rw [h2] at e1
  cases e1
  rw [hp] at h5
  cases h5
theorem Rel.newNM (r : Rel g O H σ δ) {p : Addr} (hp : H p = none) : ¬ NM g O σ δ p := fun z => z.elim (r.notN (r.free0 hp)) (r.newM hp)
/-- what stands for data in H names nothing that is free there -/
theorem Rp.put {ho : Ho} {H : Hp} {N : Addr → Prop} {p : Addr} {v : V} {d : D} (r : Rp ho H N v d) (hp : H p = none) : Rp ho H (fun a => N a ∨ a = p) v d :=
  r.mono (fun _ _ e _ => e) fun a xs e z => z.elim id fun z => by subst z; rw [hp] at e; cases e
theorem RpA.put {ho : Ho} {H : Hp} {N : Addr → Prop} {p : Addr} {v : List V} {d : List D} (r : RpA ho H N v d) (hp : H p = none) : RpA ho H (fun a => N a ∨ a = p) v d :=
  r.mono (fun _ _ e _ => e) fun a xs e z => z.elim id fun z => by subst z; rw [hp] at e; cases e
/-- fewer owned slots: the others are frozen -/
theorem Rel.less (r : Rel g O H σ δ) {O' : List Nat} (hO : ∀ i, i ∈ O' → i ∈ O) : Rel g O' H σ δ := by
  have sub : ∀ a, Mo O' σ δ a → Mo O σ δ a := fun a ⟨i, d, hi, e⟩ => ⟨i, d, hO i hi, e⟩
  have subN : ∀ a, NM g O' σ δ a → NM g O σ δ a := fun a z => z.imp id (sub a)
  refine ⟨r.len, r.base, r.hand, r.nall, fun i d n e => ?_, fun i d n e => ?_, fun i j a d e hi hj => r.apart i j a d e (hO i hi) (hO j hj)⟩
  · by_cases hi : i ∈ O
    · obtain ⟨a, vs, ds, h1, h2, h3, h4, h5, h6⟩ := r.own i d hi e
      subst h1
      refine ⟨_, h2, .lst (fun z => ?_) h3 h5 (h6.mono (fun _ _ e _ => e) fun a _ _ z => subN a z)⟩
      rcases z with z | ⟨j, d2, hj, e1, e2⟩
      · exact r.notN h4 z
      · have := r.apart i j a _ _ hi (hO j hj) h2 e1 e e2
        subst this
        exact n hj
    · obtain ⟨v, h1, h2⟩ := r.free i d hi e
      exact ⟨v, h1, h2.mono (fun _ _ e _ => e) fun a _ _ z => subN a z⟩
  · obtain ⟨a, vs, ds, h1, h2, h3, h4, h5, h6⟩ := r.own i d (hO i n) e
    exact ⟨a, vs, ds, h1, h2, h3, h4, h5, h6.mono (fun _ _ e _ => e) fun a _ _ z => subN a z⟩
theorem get_set {α : Type} {l : List (Option α)} {i j : Nat} {x y : Option α} (h : (l.set i x)[j]? = some y) : (i = j ∧ y = x ∧ i < l.length) ∨ (i ≠ j ∧ l[j]? = some y) := by
  rw [List.getElem?_set] at h
  by_cases e : i = j
  · rw [if_pos e] at h
    split at h
    · exact .inl ⟨e, (Option.some.inj h).symm, by assumption⟩
    · cases h
  · rw [if_neg e] at h
    exact .inr ⟨e, h⟩
theorem set_at {α : Type} {l : List (Option α)} {i : Nat} {x : Option α} (h : i < l.length) : (l.set i x)[i]? = some x := by
  rw [List.getElem?_set, if_pos rfl, if_pos h]
theorem set_off {α : Type} {l : List (Option α)} {i j : Nat} {x : Option α} (h : i ≠ j) : (l.set i x)[j]? = l[j]? := by
  rw [List.getElem?_set, if_neg h]
theorem Mo.set_free {i : Nat} {v : V} {d : Option D} (hi : i ∉ O) {a : Addr} (m : Mo O (σ.set i (some v)) (δ.set i d) a) : Mo O σ δ a := by
  obtain ⟨j, e, hj, h1, h2⟩ := m
  have n : i ≠ j := fun z => hi (z ▸ hj)
  exact ⟨j, e, hj, by rwa [set_off n] at h1, by rwa [set_off n] at h2⟩
/-- a free slot gets a value -/
theorem Rel.set (r : Rel g O H σ δ) {i : Nat} {v : V} {d : D} (hi : i ∉ O) (q : Rp g.ho H (NM g O σ δ) v d) : Rel g O H (σ.set i (some v)) (δ.set i (some d)) := by
  have subN : ∀ a, NM g O (σ.set i (some v)) (δ.set i (some d)) a → NM g O σ δ a := fun a z => z.imp id (Mo.set_free hi)
  refine ⟨by rw [List.length_set, List.length_set]; exact r.len, r.base, r.hand, r.nall, fun j e n h => ?_, fun j e n h => ?_, fun j k a e1 e2 hj hk h1 h2 h3 h4 => ?_⟩
  · rcases get_set h with ⟨rfl, h, hl⟩ | ⟨ne, h⟩
    · cases h
      exact ⟨v, set_at (by rw [r.len]; exact hl), q.mono (fun _ _ e _ => e) fun a _ _ z => subN a z⟩
    · obtain ⟨w, h1, h2⟩ := r.free j e n h
      exact ⟨w, by rwa [set_off ne], h2.mono (fun _ _ e _ => e) fun a _ _ z => subN a z⟩
  · have ne : i ≠ j := fun z => hi (z ▸ n)
    rw [set_off ne] at h
    obtain ⟨a, vs, ds, h1, h2, h3, h4, h5, h6⟩ := r.own j e n h
    exact ⟨a, vs, ds, h1, by rwa [set_off ne], h3, h4, h5, h6.mono (fun _ _ e _ => e) fun a _ _ z => subN a z⟩
  · have nj : i ≠ j := fun z => hi (z ▸ hj)
    have nk : i ≠ k := fun z => hi (z ▸ hk)
    rw [set_off nj] at h1 h3
    rw [set_off nk] at h2 h4
    exact r.apart j k a e1 e2 hj hk h1 h2 h3 h4
/-- a free slot is forgotten -/
theorem Rel.forget (r : Rel g O H σ δ) {i : Nat} {w : Option V} (hi : i ∉ O) : Rel g O H (σ.set i w) (δ.set i none) := by
  have subN : ∀ a, NM g O (σ.set i w) (δ.set i none) a → NM g O σ δ a := fun a z => z.imp id fun ⟨j, e, hj, h1, h2⟩ => by
    have n : i ≠ j := fun z => hi (z ▸ hj)
    exact ⟨j, e, hj, by rwa [set_off n] at h1, by rwa [set_off n] at h2⟩
  refine ⟨by rw [List.length_set, List.length_set]; exact r.len, r.base, r.hand, r.nall, fun j e n h => ?_, fun j e n h => ?_, fun j k a e1 e2 hj hk h1 h2 h3 h4 => ?_⟩
  · rcases get_set h with ⟨_, h, _⟩ | ⟨ne, h⟩
    · cases h
    · obtain ⟨w, h1, h2⟩ := r.free j e n h
      exact ⟨w, by rwa [set_off ne], h2.mono (fun _ _ e _ => e) fun a _ _ z => subN a z⟩
  · have ne : i ≠ j := fun z => hi (z ▸ n)
    rw [set_off ne] at h
    obtain ⟨a, vs, ds, h1, h2, h3, h4, h5, h6⟩ := r.own j e n h
    exact ⟨a, vs, ds, h1, by rwa [set_off ne], h3, h4, h5, h6.mono (fun _ _ e _ => e) fun a _ _ z => subN a z⟩
  · have nj : i ≠ j := fun z => hi (z ▸ hj)
    have nk : i ≠ k := fun z => hi (z ▸ hk)
    rw [set_off nj] at h1 h3
    rw [set_off nk] at h2 h4
    exact r.apart j k a e1 e2 hj hk h1 h2 h3 h4
/-- an owned slot gets a new list: what stood before names it nowhere -/
theorem Rel.setO (r : Rel g O H σ δ) {i : Nat} {p : Addr} {vs : List V} {ds : List D} {H' : Hp} (hi : i ∈ O) (hp : H p = none) (s : Ext g.ho H H') (e : H' p = some (.lst vs)) (q : RpA g.ho H' (fun a => NM g O σ δ a ∨ a = p) vs ds) : Rel g O H' (σ.set i (some (.ref p))) (δ.set i (some (.lst ds))) := by
  have subN : ∀ a, NM g O (σ.set i (some (.ref p))) (δ.set i (some (.lst ds))) a → NM g O σ δ a ∨ a = p := fun a z => by
    rcases z with z | ⟨j, d, hj, h1, h2⟩
    · exact .inl (.inl z)
    · rcases get_set h1 with ⟨rfl, h1, _⟩ | ⟨ne, h1⟩
      · cases h1
        exact .inr rfl
      · rw [set_off ne] at h2
        exact .inl (.inr ⟨j, d, hj, h1, h2⟩)
  have op := r.off_free hp
  have r' := r.ext s
  refine ⟨by rw [List.length_set, List.length_set]; exact r.len, r'.base, r.hand, r.nall, fun j d n h => ?_, fun j d n h => ?_, fun j k a e1 e2 hj hk h1 h2 h3 h4 => ?_⟩
  · have ne : i ≠ j := fun z => n (z ▸ hi)
    rw [set_off ne] at h
    obtain ⟨w, h1, h2⟩ := r.free j d n h
    exact ⟨w, by rwa [set_off ne], ((h2.put hp).ext s).mono (fun _ _ e _ => e) fun a _ _ z => subN a z⟩
  · rcases get_set h with ⟨rfl, h, hl⟩ | ⟨ne, h⟩
    · cases h
      exact ⟨p, vs, ds, rfl, set_at (by rw [r.len]; exact hl), op, r.free0 hp, e, q.mono (fun _ _ e _ => e) fun a _ _ z => subN a z⟩
    · obtain ⟨a, ws, es, h1, h2, h3, h4, h5, h6⟩ := r.own j d n h
      exact ⟨a, ws, es, h1, by rwa [set_off ne], h3, h4, s.keep _ _ h5 h3, ((h6.put hp).ext s).mono (fun _ _ e _ => e) fun a _ _ z => subN a z⟩
  · have old : ∀ {j : Nat} {e : D}, j ∈ O → σ[j]? = some (some (.ref p)) → δ[j]? = some (some e) → False := fun {j e} hj h h' => by
      obtain ⟨b, _, _, _, k2, _, _, k5, _⟩ := r.own j e hj h'
      rw [k2] at h
      cases h
      rw [hp] at k5
      cases k5
    rcases get_set h1 with ⟨rfl, h1, _⟩ | ⟨nj, h1⟩
    · cases h1
      rcases get_set h2 with ⟨rfl, _, _⟩ | ⟨nk, h2⟩
      · rfl
      · rw [set_off nk] at h4
        exact (old hk h2 h4).elim
    · rw [set_off nj] at h3
      rcases get_set h2 with ⟨rfl, h2, _⟩ | ⟨nk, h2⟩
      · cases h2
        exact (old hj h1 h3).elim
      · rw [set_off nk] at h4
        exact r.apart j k a e1 e2 hj hk h1 h2 h3 h4
/-- an owned list changes -/
theorem Rel.write (r : Rel g O H σ δ) {i : Nat} {a : Addr} {vs : List V} {ds es : List D} (hi : i ∈ O) (e : δ[i]? = some (some (.lst ds))) (ea : σ[i]? = some (some (.ref a))) (q : RpA g.ho H (NM g O σ δ) vs es) : Rel g O (upd H a (.lst vs)) σ (δ.set i (some (.lst es))) := by
  obtain ⟨b, ws, zs, k1, k2, k3, k4, k5, k6⟩ := r.own i _ hi e
  rw [k2] at ea
  cases ea
  have mo : ∀ x, NM g O σ (δ.set i (some (.lst es))) x ↔ NM g O σ δ x := fun x => by
    constructor
    · rintro (z | ⟨j, d, hj, h1, h2⟩)
      · exact .inl z
      · rcases get_set h2 with ⟨rfl, _, _⟩ | ⟨ne, h2⟩
        · exact .inr ⟨i, _, hj, h1, e⟩
        · exact .inr ⟨j, d, hj, h1, h2⟩
    · rintro (z | ⟨j, d, hj, h1, h2⟩)
      · exact .inl z
      · by_cases ne : i = j
        · subst ne
          exact .inr ⟨i, _, hj, h1, set_at (List.getElem?_eq_some_iff.mp e).1⟩
        · exact .inr ⟨j, d, hj, h1, by rwa [set_off ne]⟩
  have mine : NM g O σ δ a := .inr ⟨i, _, hi, k2, e⟩
  -- what is clean stays as it is
  have st : ∀ {v : V} {d : D}, Rp g.ho H (NM g O σ δ) v d → Rp g.ho (upd H a (.lst vs)) (NM g O σ (δ.set i (some (.lst es)))) v d := by
    have both : (∀ v d, Rp g.ho H (NM g O σ δ) v d → Rp g.ho (upd H a (.lst vs)) (NM g O σ (δ.set i (some (.lst es)))) v d) := by
      intro v d h
      refine Rp.rec (motive_1 := fun v d _ => Rp g.ho (upd H a (.lst vs)) (NM g O σ (δ.set i (some (.lst es)))) v d) (motive_2 := fun v d _ => RpA g.ho (upd H a (.lst vs)) (NM g O σ (δ.set i (some (.lst es)))) v d) (motive_3 := fun v d _ => RpF g.ho (upd H a (.lst vs)) (NM g O σ (δ.set i (some (.lst es)))) v d) ?_ ?_ ?_ ?_ ?_ ?_ ?_ ?_ ?_ ?_ ?_ ?_ ?_ ?_ ?_ ?_ h
      · exact .non
      · exact .bl
      · exact .int
      · exact .str
      · exact .ty
      · intro b ws es2 nN of eb _ ih
        exact .lst (fun z => nN ((mo _).mp z)) of (by rw [upd_ne (fun z => nN (by rw [z]; exact mine))]; exact eb) ih
      · intro b ws es2 o of eb hc hd _ ih
        exact .tup of (by rw [upd_ne (fun z => by rw [z, k5] at eb; cases eb)]; exact eb) hc hd ih
      · intro b C dx fs gs of eb _ ih
        exact .ins of (by rw [upd_ne (fun z => by rw [z, k5] at eb; cases eb)]; exact eb) ih
      · intro h q eh
        exact .hand eh
      · intro b kvs of eb
        exact .dk of (by rw [upd_ne (fun z => by rw [z, k5] at eb; cases eb)]; exact eb)
      · exact .raw
      · intro b C dd cls ws fs ec of eb _ ih
        exact .exc ec of (by rw [upd_ne (fun z => by rw [z, k5] at eb; cases eb)]; exact eb) ih
      · exact .nil
      · intro v d vs ds _ _ h1 h2
        exact .cons h1 h2
      · exact .nil
      · intro x v d vs ds _ _ h1 h2
        exact .cons h1 h2
    exact fun {v d} h => both v d h
  have stA : ∀ {v : List V} {d : List D}, RpA g.ho H (NM g O σ δ) v d → RpA g.ho (upd H a (.lst vs)) (NM g O σ (δ.set i (some (.lst es)))) v d := fun {v d} h => by
    induction d generalizing v with
    | nil => cases h; exact .nil
    | cons x xs ih => cases h with | cons h t => exact .cons (st h) (ih t)
  have s0 : Ext g.ho g.H0 (upd H a (.lst vs)) := by
    refine ⟨fun b o eb ob => ?_, fun h q eh x => ?_⟩
    · rw [upd_ne (fun z => by rw [z, k4] at eb; cases eb)]
      exact r.base.keep b o eb ob
    · have y := r.base.hand h q eh x
      have n1 : h ≠ a := fun z => k3 h q eh z.symm
      obtain ⟨cs, i, r', t, h1, h2, m⟩ := y.ex
      have n2 : q ≠ a := fun z => by
        obtain ⟨cs0, i0, r0, t0, g1, g2, _⟩ := x.ex
        rw [z, k4] at g2
        cases g2
      exact ⟨cs, i, r', t, by rw [upd_ne n1]; exact h1, by rw [upd_ne n2]; exact h2, m⟩
  refine ⟨by rw [List.length_set]; exact r.len, s0, r.hand, r.nall, fun j d n h => ?_, fun j d n h => ?_, fun j k b e1 e2 hj hk h1 h2 h3 h4 => ?_⟩
  · have ne : i ≠ j := fun z => n (z ▸ hi)
    rw [set_off ne] at h
    obtain ⟨w, h1, h2⟩ := r.free j d n h
    exact ⟨w, h1, st h2⟩
  · rcases get_set h with ⟨rfl, h, hl⟩ | ⟨ne, h⟩
    · cases h
      exact ⟨a, vs, es, rfl, k2, k3, k4, upd_same, stA q⟩
    · obtain ⟨b, ws2, zs2, h1, h2, h3, h4, h5, h6⟩ := r.own j d n h
      have nb : b ≠ a := fun z => ne (r.apart i j a _ _ hi n k2 (z ▸ h2) e h)
      exact ⟨b, ws2, zs2, h1, h2, h3, h4, by rw [upd_ne nb]; exact h5, stA h6⟩
  · have at_ : ∀ {j : Nat} {x : D}, (δ.set i (some (.lst es)))[j]? = some (some x) → ∃ y, δ[j]? = some (some y) := fun {j x} h => by
      rcases get_set h with ⟨rfl, _, _⟩ | ⟨_, h⟩
      · exact ⟨_, e⟩
      · exact ⟨_, h⟩
    obtain ⟨y1, g1⟩ := at_ h3
    obtain ⟨y2, g2⟩ := at_ h4
    exact r.apart j k b y1 y2 hj hk h1 h2 g1 g2
end
end DL
set_option Elab.async false
set_option linter.all false
set_option maxRecDepth 100000
set_option maxHeartbeats 4000000
namespace DL
open PySem PySem.Spec PyProof.Rows L2 Gen
/-! ### judgements -/
abbrev DX := Addr → Option (List (Str × D)) → Prop
abbrev DE := DX → DSt → (D → Prop) → Prop
abbrev DT := DX → DSt → (Bool → Prop) → Prop
abbrev DAr := DX → DSt → (List D → Prop) → Prop
/-- what a raised thing's dict stands for -/
def XAt (ho : Ho) (H : Hp) (dd : Option Addr) : Option (List (Str × D)) → Prop
  | none => dd = none
  | some gs => D.noLF gs = true ∧ ∃ a vs, dd = some a ∧ H a = some (.xd vs) ∧ RpF ho H (fun _ => False) vs gs
/-- a value to be read: it stands for data, or it is an owned list -/
def Rv (ho : Ho) (H : Hp) (N : Addr → Prop) (v : V) (y : D) : Prop := Rp ho H N v y ∨ ∃ a vs ds, v = .ref a ∧ y = .lst ds ∧ off ho a ∧ H a = some (.lst vs) ∧ RpA ho H N vs ds
theorem Rv.ext {ho : Ho} {H H' : Hp} {N : Addr → Prop} {v : V} {d : D} (r : Rv ho H N v d) (s : Ext ho H H') : Rv ho H' N v d := by
  rcases r with r | ⟨a, vs, ds, h1, h2, h3, h4, h5⟩
  · exact .inl (r.ext s)
  · exact .inr ⟨a, vs, ds, h1, h2, h3, s.keep _ _ h4 h3, h5.ext s⟩
inductive RvA (ho : Ho) (H : Hp) (N : Addr → Prop) : List V → List D → Prop
  | nil : RvA ho H N [] []
  | cons {v : V} {d : D} {vs : List V} {ds : List D} (h : Rv ho H N v d) (t : RvA ho H N vs ds) : RvA ho H N (v :: vs) (d :: ds)
theorem RvA.ext {ho : Ho} {H H' : Hp} {N : Addr → Prop} (s : Ext ho H H') : ∀ {vs : List V} {ds : List D}, RvA ho H N vs ds → RvA ho H' N vs ds
  | _, _, .nil => .nil
  | _, _, .cons h t => .cons (h.ext s) (RvA.ext s t)
/-- what is fresh: a list just made -/
def Fr (ho : Ho) (H : Hp) (N : Addr → Prop) (H' : Hp) (v : V) (y : D) : Prop := ∃ p vs ds, v = .ref p ∧ y = .lst ds ∧ H p = none ∧ H' p = some (.lst vs) ∧ RpA ho H' (fun a => N a ∨ a = p) vs ds
/-- the heap as a def's body knows it -/
structure Hc (ho : Ho) (N : Addr → Prop) (H : Hp) : Prop where
  hand : ∀ h q, ho = some (h, q) → HandAt H h q
  all : ∀ a, N a → H a ≠ none
theorem Hc.off {ho : Ho} {N : Addr → Prop} {H : Hp} (c : Hc ho N H) {p : Addr} (hp : H p = none) : off ho p := fun h q e => (c.hand h q e).off hp
theorem Hc.notN {ho : Ho} {N : Addr → Prop} {H : Hp} (c : Hc ho N H) {p : Addr} (hp : H p = none) : ¬ N p := fun z => c.all p z hp
theorem Fr.rp {ho : Ho} {H H' : Hp} {N : Addr → Prop} {v : V} {y : D} (c : Hc ho N H) (f : Fr ho H N H' v y) : Rp ho H' N v y := by
  obtain ⟨p, vs, ds, rfl, rfl, h1, h2, h3⟩ := f
  exact .lst (c.notN h1) (c.off h1) h2 (h3.mono (fun _ _ e _ => e) fun _ _ _ z => .inl z)
theorem Rel.hc {g : G} {O : List Nat} {H : Hp} {σ : L2.St} {δ : DSt} (r : Rel g O H σ δ) : Hc g.ho (NM g O σ δ) H := by
  refine ⟨r.handNow, fun a z e => ?_⟩
  rcases z with z | ⟨i, d, hi, h1, h2⟩
  · cases q : g.H0 a with
    | none => exact r.nall a z q
    | some o =>
      by_cases ho : off g.ho a
      · rw [r.base.keep a o q ho] at e
        cases e
      · refine ho fun h q hh ea => ?_
        obtain ⟨o, eo⟩ := (r.handNow h q hh).has
        rw [ea, eo] at e
        cases e
  · obtain ⟨b, _, _, _, h3, _, _, h6, _⟩ := r.own i d hi h2
    rw [h3] at h1
    cases h1
    rw [e] at h6
    cases h6
/-- what is raised is wished for -/
def WOk (W : WX) (Ow : List Nat) (g : G) (σ : L2.St) (δ : DSt) (er : DX) : Prop := ∀ C fs, er C fs → ∀ dd H', Rel g Ow H' σ δ → XAt g.ho H' dd fs → W (.ref C) dd σ H'
def upR (R : Ho → Hp → (Addr → Prop) → Hp → V → D → Prop) (W : WX) (Ow O : List Nat) (d : DE) : TE := fun σ H Q => ∃ (g : G) (δ : DSt) (P : D → Prop) (er : DX), Rel g O H σ δ ∧ WOk W Ow g σ δ er ∧ d er δ P ∧
  ∀ y, P y → ∀ v H', Ext g.ho H H' → R g.ho H (NM g O σ δ) H' v y → Q v H'
abbrev RE : Ho → Hp → (Addr → Prop) → Hp → V → D → Prop := fun ho _ N H' v y => Rp ho H' N v y
abbrev RF : Ho → Hp → (Addr → Prop) → Hp → V → D → Prop := fun ho H N H' v y => Fr ho H N H' v y
def StepR (R : Ho → Hp → (Addr → Prop) → Hp → V → D → Prop) : Prop := ∀ ho H N H1 H' v y, Hc ho N H → Ext ho H H1 → R ho H1 N H' v y → R ho H N H' v y
/-- it gives data that names no owned list -/
abbrev upE := upR RE
/-- it gives something to read -/
abbrev upV := upR fun ho _ N H' v y => Rv ho H' N v y
/-- it gives a list just made -/
abbrev upF := upR RF
def upA (W : WX) (Ow O : List Nat) (d : DAr) : TA := fun σ H Q => ∃ (g : G) (δ : DSt) (P : List D → Prop) (er : DX), Rel g O H σ δ ∧ WOk W Ow g σ δ er ∧ d er δ P ∧
  ∀ ys, P ys → ∀ vs H', Ext g.ho H H' → RpA g.ho H' (NM g O σ δ) vs ys → Q vs H'
def upAV (W : WX) (Ow O : List Nat) (d : DAr) : TA := fun σ H Q => ∃ (g : G) (δ : DSt) (P : List D → Prop) (er : DX), Rel g O H σ δ ∧ WOk W Ow g σ δ er ∧ d er δ P ∧
  ∀ ys, P ys → ∀ vs H', Ext g.ho H H' → RvA g.ho H' (NM g O σ δ) vs ys → Q vs H'
def upT (W : WX) (Ow O : List Nat) (d : DT) : TT := fun σ H Q => ∃ (g : G) (δ : DSt) (P : Bool → Prop) (er : DX), Rel g O H σ δ ∧ WOk W Ow g σ δ er ∧ d er δ P ∧
  ∀ b, P b → ∀ H', Ext g.ho H H' → Q b H'
section
variable {X : Cx} {W : WX} {Ow O : List Nat} {e : Expr} {d : DE}
theorem pe_weak {t t' : TE} (h : PE X e t) (w : ∀ σ H Q, t' σ H Q → t σ H Q) : PE X e t' := ⟨fun pins s σ H Q I q => h.run pins s σ H Q I (w _ _ _ q)⟩
theorem pt_weak {t t' : TT} (h : PT X e t) (w : ∀ σ H Q, t' σ H Q → t σ H Q) : PT X e t' := ⟨fun pins s σ H Q I q => h.run pins s σ H Q I (w _ _ _ q)⟩
theorem pw_weak {t t' : TT} (h : PW X e t) (w : ∀ σ H Q, t' σ H Q → t σ H Q) : PW X e t' := ⟨fun wh pins s σ H Q I q => h.run wh pins s σ H Q I (w _ _ _ q)⟩
theorem pa_weak {es : List Expr} {t t' : TA} (h : PA X es t) (w : ∀ σ H Q, t' σ H Q → t σ H Q) : PA X es t' := ⟨fun pos pins s σ H Q I q => h.run pos pins s σ H Q I (w _ _ _ q)⟩
theorem ps_weak {st : Stmt} {t t' : TS} (h : PS X st t) (w : ∀ E σ H, t' E σ H → t E σ H) : PS X st t' := ⟨fun pins s σ H E I q => h.run pins s σ H E I (w _ _ _ q)⟩
theorem pss_weak {st : List Stmt} {t t' : TS} (h : PSs X st t) (w : ∀ E σ H, t' E σ H → t E σ H) : PSs X st t' := ⟨fun pins s σ H E I q => h.run pins s σ H E I (w _ _ _ q)⟩
/-- data may be read -/
theorem toV (h : PE X e (upE W Ow O d)) : PE X e (upV W Ow O d) := pe_weak h fun σ H Q ⟨g, δ, P, er, r, w, q, k⟩ => ⟨g, δ, P, er, r, w, q, fun y p v H' s z => k y p v H' s (.inl z)⟩
/-- a fresh list is data -/
theorem ofF (h : PE X e (upF W Ow O d)) : PE X e (upE W Ow O d) := pe_weak h fun σ H Q ⟨g, δ, P, er, r, w, q, k⟩ => ⟨g, δ, P, er, r, w, q, fun y p v H' s z => k y p v H' s (z.rp r.hc)⟩
theorem WOk.ext {g : G} {σ : L2.St} {δ : DSt} {er : DX} (w : WOk W Ow g σ δ er) : WOk W Ow g σ δ er := w
/-! ### names, constants -/
def dVar (i : Nat) : DE := fun _ δ P => ∃ y, δ[i]? = some (some y) ∧ P y
def dC (y : D) : DE := fun _ _ P => P y
theorem d_var {i : Nat} (hi : i ∉ O) (h : PE X e (tVar i)) : PE X e (upE W Ow O (dVar i)) := pe_weak h fun σ H Q ⟨g, δ, P, er, r, w, ⟨y, ey, p⟩, k⟩ => by
  obtain ⟨v, h1, h2⟩ := r.free i y hi ey
  exact ⟨v, h1, k y p v H .refl h2⟩
theorem d_varO {i : Nat} (hi : i ∈ O) (h : PE X e (tVar i)) : PE X e (upV W Ow O (dVar i)) := pe_weak h fun σ H Q ⟨g, δ, P, er, r, w, ⟨y, ey, p⟩, k⟩ => by
  obtain ⟨a, vs, ds, h1, h2, h3, h4, h5, h6⟩ := r.own i y hi ey
  exact ⟨_, h2, k y p _ H .refl (.inr ⟨a, vs, ds, rfl, h1, h3, h5, h6⟩)⟩
theorem d_c {v : V} {y : D} (hy : ∀ ho H N, Rp ho H N v y) (h : PE X e (tC v)) : PE X e (upE W Ow O (dC y)) := pe_weak h fun σ H Q ⟨g, δ, P, er, r, w, p, k⟩ => k y p v H .refl (hy _ _ _)
/-! ### operators -/
/-- what is wished of an operation's answer -/
abbrev resE (ho : Ho) (N : Addr → Prop) (H : Hp) (P : D → Prop) (Q : VK) : Prop := ∀ z, P z → ∀ w H', Ext ho H H' → Rp ho H' N w z → Q w H'
abbrev resF (ho : Ho) (N : Addr → Prop) (H : Hp) (P : D → Prop) (Q : VK) : Prop := ∀ z, P z → ∀ w H', Ext ho H H' → Fr ho H N H' w z → Q w H'
def Lift2 (f : D → D → (D → Prop) → Prop) (r : R2) : Prop := ∀ ho N H, Hc ho N H → ∀ x y v u P Q, Rv ho H N v x → Rv ho H N u y → f x y P → resE ho N H P Q → r v u H Q
def LiftF2 (f : D → D → (D → Prop) → Prop) (r : R2) : Prop := ∀ ho N H, Hc ho N H → ∀ x y v u P Q, Rv ho H N v x → Rv ho H N u y → f x y P → resF ho N H P Q → r v u H Q
def LiftC (f : List D → (D → Prop) → Prop) (r : List V → Hp → VK → Prop) : Prop := ∀ ho N H, Hc ho N H → ∀ xs vs P Q, RvA ho H N vs xs → f xs P → resE ho N H P Q → r vs H Q
def LiftFC (f : List D → (D → Prop) → Prop) (r : List V → Hp → VK → Prop) : Prop := ∀ ho N H, Hc ho N H → ∀ xs vs P Q, RvA ho H N vs xs → f xs P → resF ho N H P Q → r vs H Q
theorem LiftF2.toE {f : D → D → (D → Prop) → Prop} {r : R2} (h : LiftF2 f r) : Lift2 f r := fun ho N H c x y v u P Q a b p k => h ho N H c x y v u P Q a b p fun z pz w H' s fr => k z pz w H' s (fr.rp c)
theorem LiftFC.toE {f : List D → (D → Prop) → Prop} {r : List V → Hp → VK → Prop} (h : LiftFC f r) : LiftC f r := fun ho N H c xs vs P Q a p k => h ho N H c xs vs P Q a p fun z pz w H' s fr => k z pz w H' s (fr.rp c)
def dOp (f : D → D → (D → Prop) → Prop) (da db : DE) : DE := fun er δ P => da er δ fun x => db er δ fun y => f x y P
/-- two operands, one after the other -/
theorem two {da db : DE} {f : D → D → (D → Prop) → Prop} {σ : L2.St} {H : Hp} {Q : VK} {R : Ho → Hp → (Addr → Prop) → Hp → V → D → Prop} {r : R2} (hR : StepR R)
    (L : ∀ ho N H, Hc ho N H → ∀ x y v u P Q, Rv ho H N v x → Rv ho H N u y → f x y P → (∀ z, P z → ∀ w H', Ext ho H H' → R ho H N H' w z → Q w H') → r v u H Q) (h : upR R W Ow O (dOp f da db) σ H Q) :
    upV W Ow O da σ H fun v H1 => upV W Ow O db σ H1 fun u H2 => r v u H2 Q := by
  obtain ⟨g, δ, P, er, rl, w, q, k⟩ := h
  refine ⟨g, δ, _, er, rl, w, q, fun x px v H1 s1 r1 => ?_⟩
  refine ⟨g, δ, _, er, rl.ext s1, w, px, fun y py u H2 s2 r2 => ?_⟩
  exact L _ _ _ ((rl.ext s1).ext s2).hc _ _ _ _ _ _ (r1.ext s2) r2 py fun z pz w' H' s3 r3 => k z pz w' H' ((s1.trans s2).trans s3) (hR _ _ _ _ _ _ _ rl.hc (s1.trans s2) r3)
theorem stepE : StepR RE := fun _ _ _ _ _ _ _ _ _ h => h
theorem rF {ho : Ho} {H : Hp} {N : Addr → Prop} {H1 H' : Hp} {v : V} {y : D} (c : Hc ho N H) (s : Ext ho H H1) (h : Fr ho H1 N H' v y) : Fr ho H N H' v y := by
  obtain ⟨p, vs, ds, h1, h2, h3, h4, h5⟩ := h
  refine ⟨p, vs, ds, h1, h2, ?_, h4, h5⟩
  cases z : H p with
  | none => rfl
  | some o =>
    by_cases n : off ho p
    · rw [s.keep p o z n] at h3
      cases h3
    · refine absurd (fun h q e ea => ?_) n
      obtain ⟨o2, e2⟩ := (s.hand h q e (c.hand h q e)).has
      rw [ea, e2] at h3
      cases h3
theorem stepF : StepR RF := fun _ _ _ _ _ _ _ c s h => rF c s h
variable {a b : Expr} {da db : DE} {pos : Pos}
theorem d_op {op : Operator} {f : D → D → (D → Prop) → Prop} {r : R2} (ho : OpR X (binaryOp op) r) (L : Lift2 f r) (ha : PE X a (upV W Ow O da)) (hb : PE X b (upV W Ow O db)) : PE X (.BinOp a op b pos) (upE W Ow O (dOp f da db)) :=
  pe_weak (pe_op ho ha hb) fun σ H Q h => two (R := RE) stepE L h
theorem f_op {op : Operator} {f : D → D → (D → Prop) → Prop} {r : R2} (ho : OpR X (binaryOp op) r) (L : LiftF2 f r) (ha : PE X a (upV W Ow O da)) (hb : PE X b (upV W Ow O db)) : PE X (.BinOp a op b pos) (upF W Ow O (dOp f da db)) :=
  pe_weak (pe_op ho ha hb) fun σ H Q h => two (R := RF) stepF L h
theorem d_cmp {op : CmpOp} {f : D → D → (D → Prop) → Prop} {r : R2} (ho : OpR X (compareOp op) r) (L : Lift2 f r) (ha : PE X a (upV W Ow O da)) (hb : PE X b (upV W Ow O db)) (hm : behindInMarks op b = false) : PE X (.Compare a [op] [b] pos) (upE W Ow O (dOp f da db)) :=
  pe_weak (pe_cmpR ho ha hb hm) fun σ H Q h => two (R := RE) stepE L h
theorem d_ix {f : D → D → (D → Prop) → Prop} {r : R2} (hr : IxR X r) (L : Lift2 f r) (ha : PE X a (upV W Ow O da)) (hb : PE X b (upV W Ow O db)) (hs : PlainIx b) : PE X (.Subscript a b pos) (upE W Ow O (dOp f da db)) :=
  pe_weak (pe_ix hr ha hb hs) fun σ H Q h => two (R := RE) stepE L h
def dT (d : DE) : DT := fun er δ P => d er δ fun x => ∃ k, x = .bl k ∧ P k
theorem rp_bl {ho : Ho} {H : Hp} {N : Addr → Prop} {v : V} {k : Bool} (h : Rp ho H N v (.bl k)) : v = .bl k := by cases h; rfl
theorem rp_int {ho : Ho} {H : Hp} {N : Addr → Prop} {v : V} {k : Int} (h : Rp ho H N v (.int k)) : v = .int k := by cases h; rfl
theorem rp_str {ho : Ho} {H : Hp} {N : Addr → Prop} {v : V} {k : Str} (h : Rp ho H N v (.str k)) : v = .str k := by cases h; rfl
theorem rp_non {ho : Ho} {H : Hp} {N : Addr → Prop} {v : V} (h : Rp ho H N v .non) : v = .non := by cases h; rfl
theorem rv_int {ho : Ho} {H : Hp} {N : Addr → Prop} {v : V} {k : Int} (h : Rv ho H N v (.int k)) : v = .int k := by
  rcases h with h | ⟨_, _, _, _, h, _⟩
  · exact rp_int h
  · cases h
theorem rv_bl {ho : Ho} {H : Hp} {N : Addr → Prop} {v : V} {k : Bool} (h : Rv ho H N v (.bl k)) : v = .bl k := by
  rcases h with h | ⟨_, _, _, _, h, _⟩
  · exact rp_bl h
  · cases h
theorem rv_str {ho : Ho} {H : Hp} {N : Addr → Prop} {v : V} {k : Str} (h : Rv ho H N v (.str k)) : v = .str k := by
  rcases h with h | ⟨_, _, _, _, h, _⟩
  · exact rp_str h
  · cases h
theorem rv_non {ho : Ho} {H : Hp} {N : Addr → Prop} {v : V} (h : Rv ho H N v .non) : v = .non := by
  rcases h with h | ⟨_, _, _, _, h, _⟩
  · exact rp_non h
  · cases h
theorem rv_lst {ho : Ho} {H : Hp} {N : Addr → Prop} {v : V} {ds : List D} (h : Rv ho H N v (.lst ds)) : ∃ a vs, v = .ref a ∧ off ho a ∧ H a = some (.lst vs) ∧ RpA ho H N vs ds := by
  rcases h with h | ⟨a, vs, ds, h1, h2, h3, h4, h5⟩
  · cases h with | lst nN of e r => exact ⟨_, _, rfl, of, e, r⟩
  · cases h2
    exact ⟨a, vs, h1, h3, h4, h5⟩
theorem rp_tup {ho : Ho} {H : Hp} {N : Addr → Prop} {v : V} {ds : List D} (h : Rp ho H N v (.tup ds)) : ∃ a vs, v = .ref a ∧ off ho a ∧ TupN H a vs ∧ RpA ho H N vs ds := by
  cases h with | tup of e hc hd r => exact ⟨_, _, rfl, of, ⟨_, e, hc, hd⟩, r⟩
theorem rv_tup {ho : Ho} {H : Hp} {N : Addr → Prop} {v : V} {ds : List D} (h : Rv ho H N v (.tup ds)) : ∃ a vs, v = .ref a ∧ off ho a ∧ TupN H a vs ∧ RpA ho H N vs ds := by
  rcases h with h | ⟨_, _, _, _, h, _⟩
  · exact rp_tup h
  · cases h
theorem rv_ins {ho : Ho} {H : Hp} {N : Addr → Prop} {v : V} {C : Addr} {gs : List (Str × D)} (h : Rv ho H N v (.ins C gs)) : ∃ a dx fs, v = .ref a ∧ off ho a ∧ H a = some (.ins C dx fs) ∧ RpF ho H N fs gs := by
  rcases h with h | ⟨_, _, _, _, h, _⟩
  · cases h with | ins of e r => exact ⟨_, _, _, rfl, of, e, r⟩
  · cases h
theorem rv_hand {ho : Ho} {H : Hp} {N : Addr → Prop} {v : V} (h : Rv ho H N v .hand) : ∃ h q, v = .ref h ∧ ho = some (h, q) := by
  rcases h with h | ⟨_, _, _, _, h, _⟩
  · cases h with | hand e => exact ⟨_, _, rfl, e⟩
  · cases h
/-- an expression that gives True or False, as a test -/
theorem d_test (h : PE X e (upE W Ow O d)) (he : ∀ whole, isTrue e X.env whole = (do let v ← whole; standAt e.pos; holding [v] (truthy v)) := by intro _; rfl) : PT X e (upT W Ow O (dT d)) :=
  pt_weak (pt_val h he) fun σ H Q ⟨g, δ, P, er, r, w, q, k⟩ => ⟨g, δ, _, er, r, w, q, fun y ⟨b, ey, pb⟩ v H' s z => by
    subst ey
    exact ⟨b, rp_bl z, k b pb H' s⟩⟩
theorem d_tcmp {op : CmpOp} {f : D → D → (D → Prop) → Prop} {r : R2} (ho : OpR X (compareOp op) r) (L : Lift2 f r) (ha : PE X a (upV W Ow O da)) (hb : PE X b (upV W Ow O db)) (hm : behindInMarks op b = false) : PT X (.Compare a [op] [b] pos) (upT W Ow O (dT (dOp f da db))) :=
  pt_weak (pt_cmpR ho ha hb hm) fun σ H Q ⟨g, δ, P, er, r, w, q, k⟩ => two (R := RE) stepE L ⟨g, δ, _, er, r, w, q, fun y ⟨b, ey, pb⟩ v H' s z => by
    subst ey
    exact ⟨b, rp_bl z, k b pb H' s⟩⟩
/-! a < b < c -/
def dChain (f f' : D → D → (D → Prop) → Prop) (da db dc : DE) : DE := fun er δ P => da er δ fun x => db er δ fun y => f x y fun z => ∃ k, z = .bl k ∧ if k = true then dc er δ fun w => f' y w P else P (.bl false)
variable {c : Expr} {dc : DE}
theorem chain_ {f f' : D → D → (D → Prop) → Prop} {r r' : R2} (L : Lift2 f r) (L' : Lift2 f' r') {σ : L2.St} {H : Hp} {Q : VK} (h : upE W Ow O (dChain f f' da db dc) σ H Q) : tChain r r' (upV W Ow O da) (upV W Ow O db) (upV W Ow O dc) σ H Q := by
  obtain ⟨g, δ, P, er, rl, w, q, k⟩ := h
  refine ⟨g, δ, _, er, rl, w, q, fun x px v H1 s1 r1 => ?_⟩
  refine ⟨g, δ, _, er, rl.ext s1, w, px, fun y py u H2 s2 r2 => ?_⟩
  refine L _ _ _ ((rl.ext s1).ext s2).hc _ _ _ _ _ _ (r1.ext s2) r2 py fun z pz v3 H3 s3 r3 => ?_
  obtain ⟨b, ez, pb⟩ := pz
  subst ez
  refine ⟨b, rp_bl r3, ?_⟩
  cases b with
  | true =>
    rw [if_pos rfl] at pb ⊢
    refine ⟨g, δ, _, er, ((rl.ext s1).ext s2).ext s3, w, pb, fun y4 py4 u4 H4 s4 r4 => ?_⟩
    exact L' _ _ _ ((((rl.ext s1).ext s2).ext s3).ext s4).hc _ _ _ _ _ _ ((r2.ext s3).ext s4) r4 py4 fun z5 pz5 w5 H5 s5 r5 => k z5 pz5 w5 H5 ((((s1.trans s2).trans s3).trans s4).trans s5) r5
  | false =>
    rw [if_neg (fun z => by cases z)] at pb ⊢
    exact k _ pb _ H3 ((s1.trans s2).trans s3) (.bl false)
theorem d_chain {op op' : CmpOp} {f f' : D → D → (D → Prop) → Prop} {r r' : R2} (ho : OpR X (compareOp op) r) (ho' : OpR X (compareOp op') r') (L : Lift2 f r) (L' : Lift2 f' r') (ha : PE X a (upV W Ow O da)) (hb : PE X b (upV W Ow O db)) (hc : PE X c (upV W Ow O dc))
    (hm : lastMarks [op, op'] [b, c] = false := by with_unfolding_all rfl) : PE X (.Compare a [op, op'] [b, c] pos) (upE W Ow O (dChain f f' da db dc)) :=
  pe_weak (pe_chain ho ho' ha hb hc hm) fun σ H Q h => chain_ L L' h
theorem d_tchain {op op' : CmpOp} {f f' : D → D → (D → Prop) → Prop} {r r' : R2} (ho : OpR X (compareOp op) r) (ho' : OpR X (compareOp op') r') (L : Lift2 f r) (L' : Lift2 f' r') (ha : PE X a (upV W Ow O da)) (hb : PE X b (upV W Ow O db)) (hc : PE X c (upV W Ow O dc))
    (hm : lastMarks [op, op'] [b, c] = false := by with_unfolding_all rfl) : PT X (.Compare a [op, op'] [b, c] pos) (upT W Ow O (dT (dChain f f' da db dc))) :=
  pt_weak (pt_chain ho ho' ha hb hc hm) fun σ H Q ⟨g, δ, P, er, r, w, q, k⟩ => chain_ L L' ⟨g, δ, _, er, r, w, q, fun y ⟨b, ey, pb⟩ v H' s z => by
    subst ey
    exact ⟨b, rp_bl z, k b pb H' s⟩⟩
/-! not, and, or -/
def dNotT (t : DT) : DT := fun er δ P => t er δ fun b => P (!b)
def dAndT (t u : DT) : DT := fun er δ P => t er δ fun b => if b = true then u er δ P else P false
def dOrT (t u : DT) : DT := fun er δ P => t er δ fun b => if b = true then P true else u er δ P
variable {ta tb : DT} {rest : List Expr}
theorem d_not (h : PT X a (upT W Ow O ta)) : PT X (.UnaryOp .Not a pos) (upT W Ow O (dNotT ta)) := pt_weak (pt_not h) fun σ H Q ⟨g, δ, P, er, r, w, q, k⟩ => ⟨g, δ, _, er, r, w, q, fun b pb H' s => k _ pb H' s⟩
theorem d_and1 (h : PT X a (upT W Ow O ta)) : PW X (.BoolOp .And [a] pos) (upT W Ow O ta) := pw_and1 h
theorem d_or1 (h : PT X a (upT W Ow O ta)) : PW X (.BoolOp .Or [a] pos) (upT W Ow O ta) := pw_or1 h
theorem d_and (h : PT X a (upT W Ow O ta)) (h2 : PW X (.BoolOp .And (b :: rest) pos) (upT W Ow O tb)) : PW X (.BoolOp .And (a :: b :: rest) pos) (upT W Ow O (dAndT ta tb)) := pw_weak (pw_and h h2) fun σ H Q ⟨g, δ, P, er, r, w, q, k⟩ => ⟨g, δ, _, er, r, w, q, fun c pc H' s => by
  cases c with
  | true =>
    rw [if_pos rfl] at pc ⊢
    exact ⟨g, δ, P, er, r.ext s, w, pc, fun b2 pb H2 s2 => k b2 pb H2 (s.trans s2)⟩
  | false =>
    rw [if_neg (fun z => by cases z)] at pc ⊢
    exact k _ pc H' s⟩
theorem d_or (h : PT X a (upT W Ow O ta)) (h2 : PW X (.BoolOp .Or (b :: rest) pos) (upT W Ow O tb)) : PW X (.BoolOp .Or (a :: b :: rest) pos) (upT W Ow O (dOrT ta tb)) := pw_weak (pw_or h h2) fun σ H Q ⟨g, δ, P, er, r, w, q, k⟩ => ⟨g, δ, _, er, r, w, q, fun c pc H' s => by
  cases c with
  | true =>
    rw [if_pos rfl] at pc ⊢
    exact k _ pc H' s
  | false =>
    rw [if_neg (fun z => by cases z)] at pc ⊢
    exact ⟨g, δ, P, er, r.ext s, w, pc, fun b2 pb H2 s2 => k b2 pb H2 (s.trans s2)⟩⟩
/-! .. as values -/
def dAndV (x y : DE) : DE := fun er δ P => x er δ fun z => ∃ c, z = .bl c ∧ if c = true then y er δ P else P (.bl false)
def dOrV (x y : DE) : DE := fun er δ P => x er δ fun z => ∃ c, z = .bl c ∧ if c = true then P (.bl true) else y er δ P
def dNotV (x : DE) : DE := fun er δ P => x er δ fun z => ∃ c, z = .bl c ∧ P (.bl (!c))
theorem d_one {op : BoolOp} (h : PE X a (upE W Ow O da)) : PE X (.BoolOp op [a] pos) (upE W Ow O da) := pe_one h
theorem d_andV (ha : PE X a (upE W Ow O da)) (hb : PE X (.BoolOp .And (b :: rest) pos) (upE W Ow O db)) : PE X (.BoolOp .And (a :: b :: rest) pos) (upE W Ow O (dAndV da db)) := pe_weak (pe_and ha hb) fun σ H Q ⟨g, δ, P, er, r, w, q, k⟩ => ⟨g, δ, _, er, r, w, q, fun y ⟨c, ey, pc⟩ v H' s z => by
  subst ey
  refine ⟨c, rp_bl z, ?_⟩
  cases c with
  | true =>
    rw [if_pos rfl] at pc ⊢
    exact ⟨g, δ, P, er, r.ext s, w, pc, fun b2 pb v2 H2 s2 z2 => k b2 pb v2 H2 (s.trans s2) z2⟩
  | false =>
    rw [if_neg (fun z => by cases z)] at pc ⊢
    exact k _ pc _ H' s (.bl false)⟩
theorem d_orV (ha : PE X a (upE W Ow O da)) (hb : PE X (.BoolOp .Or (b :: rest) pos) (upE W Ow O db)) : PE X (.BoolOp .Or (a :: b :: rest) pos) (upE W Ow O (dOrV da db)) := pe_weak (pe_or ha hb) fun σ H Q ⟨g, δ, P, er, r, w, q, k⟩ => ⟨g, δ, _, er, r, w, q, fun y ⟨c, ey, pc⟩ v H' s z => by
  subst ey
  refine ⟨c, rp_bl z, ?_⟩
  cases c with
  | true =>
    rw [if_pos rfl] at pc ⊢
    exact k _ pc _ H' s (.bl true)
  | false =>
    rw [if_neg (fun z => by cases z)] at pc ⊢
    exact ⟨g, δ, P, er, r.ext s, w, pc, fun b2 pb v2 H2 s2 z2 => k b2 pb v2 H2 (s.trans s2) z2⟩⟩
theorem d_notV (ha : PE X a (upE W Ow O da)) : PE X (.UnaryOp .Not a pos) (upE W Ow O (dNotV da)) := pe_weak (pe_not ha) fun σ H Q ⟨g, δ, P, er, r, w, q, k⟩ => ⟨g, δ, _, er, r, w, q, fun y ⟨c, ey, pc⟩ v H' s z => by
  subst ey
  exact ⟨c, rp_bl z, k _ pc _ H' s (.bl _)⟩⟩
/-! a if t else b; -a -/
def dIf (t : DT) (x y : DE) : DE := fun er δ P => t er δ fun c => if c = true then x er δ P else y er δ P
theorem d_if (ht : PT X c (upT W Ow O ta)) (ha : PE X a (upE W Ow O da)) (hb : PE X b (upE W Ow O db)) : PE X (.IfExp c a b pos) (upE W Ow O (dIf ta da db)) := pe_weak (pe_ifExp ht ha hb) fun σ H Q ⟨g, δ, P, er, r, w, q, k⟩ => ⟨g, δ, _, er, r, w, q, fun c pc H' s => by
  cases c with
  | true =>
    rw [if_pos rfl] at pc ⊢
    exact ⟨g, δ, P, er, r.ext s, w, pc, fun b2 pb v2 H2 s2 z2 => k b2 pb v2 H2 (s.trans s2) z2⟩
  | false =>
    rw [if_neg (fun z => by cases z)] at pc ⊢
    exact ⟨g, δ, P, er, r.ext s, w, pc, fun b2 pb v2 H2 s2 z2 => k b2 pb v2 H2 (s.trans s2) z2⟩⟩
def dNeg (x : DE) : DE := fun er δ P => x er δ fun z => ∃ i, z = .int i ∧ P (.int (-i))
theorem d_neg (ha : PE X a (upE W Ow O da)) : PE X (.UnaryOp .USub a pos) (upE W Ow O (dNeg da)) := pe_weak (pe_un un_neg ha) fun σ H Q ⟨g, δ, P, er, r, w, q, k⟩ => ⟨g, δ, _, er, r, w, q, fun y ⟨i, ey, pi⟩ v H' s z => by
  subst ey
  exact ⟨i, rp_int z, k _ pi _ H' s (.int _)⟩⟩
/-! ### arguments -/
def dNil : DAr := fun _ _ P => P []
def dCons (x : DE) (xs : DAr) : DAr := fun er δ P => x er δ fun y => xs er δ fun ys => P (y :: ys)
variable {es : List Expr} {ds : DAr}
theorem a_nil : PA X [] (upA W Ow O dNil) := pa_weak pa_nil fun σ H Q ⟨g, δ, P, er, r, w, q, k⟩ => k [] q [] H .refl .nil
theorem a_cons (ha : PE X e (upE W Ow O d)) (hr : PA X es (upA W Ow O ds)) (hs : starEach (e :: es) X.env = (false, eval e X.env) :: starEach es X.env := by rfl) : PA X (e :: es) (upA W Ow O (dCons d ds)) :=
  pa_weak (pa_cons ha hr hs) fun σ H Q ⟨g, δ, P, er, r, w, q, k⟩ => ⟨g, δ, _, er, r, w, q, fun y py v H1 s1 r1 => ⟨g, δ, _, er, r.ext s1, w, py, fun ys pys vs H2 s2 r2 => k _ pys _ H2 (s1.trans s2) (.cons (r1.ext s2) r2)⟩⟩
theorem v_nil : PA X [] (upAV W Ow O dNil) := pa_weak pa_nil fun σ H Q ⟨g, δ, P, er, r, w, q, k⟩ => k [] q [] H .refl .nil
theorem v_cons (ha : PE X e (upV W Ow O d)) (hr : PA X es (upAV W Ow O ds)) (hs : starEach (e :: es) X.env = (false, eval e X.env) :: starEach es X.env := by rfl) : PA X (e :: es) (upAV W Ow O (dCons d ds)) :=
  pa_weak (pa_cons ha hr hs) fun σ H Q ⟨g, δ, P, er, r, w, q, k⟩ => ⟨g, δ, _, er, r, w, q, fun y py v H1 s1 r1 => ⟨g, δ, _, er, r.ext s1, w, py, fun ys pys vs H2 s2 r2 => k _ pys _ H2 (s1.trans s2) (.cons (r1.ext s2) r2)⟩⟩
/-! ### calls of built-ins -/
def dCB (f : List D → (D → Prop) → Prop) (xs : DAr) : DE := fun er δ P => xs er δ fun ys => f ys P
theorem callB_ {R : Ho → Hp → (Addr → Prop) → Hp → V → D → Prop} {f : List D → (D → Prop) → Prop} {r : List V → Hp → VK → Prop} (hR : StepR R)
    (L : ∀ ho N H, Hc ho N H → ∀ xs vs P Q, RvA ho H N vs xs → f xs P → (∀ z, P z → ∀ w H', Ext ho H H' → R ho H N H' w z → Q w H') → r vs H Q) {σ : L2.St} {H : Hp} {Q : VK} (h : upR R W Ow O (dCB f ds) σ H Q) : tCB r (upAV W Ow O ds) σ H Q := by
  obtain ⟨g, δ, P, er, rl, w, q, k⟩ := h
  exact ⟨g, δ, _, er, rl, w, q, fun ys py vs H1 s1 r1 => L _ _ _ (rl.ext s1).hc _ _ _ _ r1 py fun z pz w' H' s3 r3 => k z pz w' H' (s1.trans s3) (hR _ _ _ _ _ _ _ rl.hc s1 r3)⟩
variable {id : String} {T : String} {x : Str} {p : Pos} {f : List D → (D → Prop) → Prop} {r : List V → Hp → VK → Prop}
theorem d_callB (hc : CallR X (.builtin id) r) (L : LiftC f r) (hg : Gl X x) (hm : X.mg x = none) (hv : bootBuiltins x = some (.builtin id)) (ha : PA X (e :: es) (upAV W Ow O ds)) (hn : x ≠ "__name__" := by decide) (hdb : (x == ("__debug__" : Str)) = false := by decide)
    (he : starEach (e :: es) X.env = (false, eval e X.env) :: starEach es X.env := by rfl) (hpl : (backTo pos (starEach es X.env)).any (·.1) = false := by rfl) : PE X (.Call (.Name x p) (e :: es) [] pos) (upE W Ow O (dCB f ds)) :=
  pe_weak (pe_callB hc hg hm hv ha hn hdb he hpl) fun σ H Q h => callB_ (R := RE) stepE L h
theorem f_callB (hc : CallR X (.builtin id) r) (L : LiftFC f r) (hg : Gl X x) (hm : X.mg x = none) (hv : bootBuiltins x = some (.builtin id)) (ha : PA X (e :: es) (upAV W Ow O ds)) (hn : x ≠ "__name__" := by decide) (hdb : (x == ("__debug__" : Str)) = false := by decide)
    (he : starEach (e :: es) X.env = (false, eval e X.env) :: starEach es X.env := by rfl) (hpl : (backTo pos (starEach es X.env)).any (·.1) = false := by rfl) : PE X (.Call (.Name x p) (e :: es) [] pos) (upF W Ow O (dCB f ds)) :=
  pe_weak (pe_callB hc hg hm hv ha hn hdb he hpl) fun σ H Q h => callB_ (R := RF) stepF L h
theorem d_callTy (hc : CallR X (.type T) r) (L : LiftC f r) (hg : Gl X x) (hm : X.mg x = none) (hv : bootBuiltins x = some (.type T)) (ha : PA X (e :: es) (upAV W Ow O ds)) (hn : x ≠ "__name__" := by decide) (hdb : (x == ("__debug__" : Str)) = false := by decide)
    (he : starEach (e :: es) X.env = (false, eval e X.env) :: starEach es X.env := by rfl) (hpl : (backTo pos (starEach es X.env)).any (·.1) = false := by rfl) : PE X (.Call (.Name x p) (e :: es) [] pos) (upE W Ow O (dCB f ds)) :=
  pe_weak (pe_callTy hc hg hm hv ha hn hdb he hpl) fun σ H Q h => callB_ (R := RE) stepE L h
theorem f_callTy (hc : CallR X (.type T) r) (L : LiftFC f r) (hg : Gl X x) (hm : X.mg x = none) (hv : bootBuiltins x = some (.type T)) (ha : PA X (e :: es) (upAV W Ow O ds)) (hn : x ≠ "__name__" := by decide) (hdb : (x == ("__debug__" : Str)) = false := by decide)
    (he : starEach (e :: es) X.env = (false, eval e X.env) :: starEach es X.env := by rfl) (hpl : (backTo pos (starEach es X.env)).any (·.1) = false := by rfl) : PE X (.Call (.Name x p) (e :: es) [] pos) (upF W Ow O (dCB f ds)) :=
  pe_weak (pe_callTy hc hg hm hv ha hn hdb he hpl) fun σ H Q h => callB_ (R := RF) stepF L h
/-! ### displays -/
def dTup (xs : DAr) : DE := fun er δ P => xs er δ fun ys => ys.length ≤ sizeLine ∧ P (.tup ys)
def dLst (xs : DAr) : DE := fun er δ P => xs er δ fun ys => ys.length ≤ sizeLine ∧ P (.lst ys)
/-- a tuple display that is known to be plain -/
def tTupN (t : TA) : TE := fun σ H Q => t σ H fun xs H1 => xs.length ≤ sizeLine ∧ ∀ (p : Addr) (o : Obj), H1 p = none → o.cls = .type "tuple" → o.dict = none → Q (.ref p) (upd H1 p (.frz o (.tup xs)))
theorem pe_tupN {t : TA} {x1} (h : PA X es t) : PE X (.Tuple es x1 pos) (tTupN t) := by
  refine ⟨fun pins s σ H Q I hq => ?_⟩
  refine wpAny_Tuple_spliced (thn (h.run pos pins s σ H _ I hq) fun us s1 ⟨xs, H1, I1, r, z, q⟩ => ⟨by rw [← r.length]; exact z, ?_⟩)
  have hf : H1 s1.heap.objs.size = none := I1.hok.fresh (Nat.le_refl _)
  refine ⟨.ref s1.heap.objs.size, upd H1 s1.heap.objs.size (.frz { cls := .type "tuple", data := .seq us.toArray } (.tup xs)), I1.laid (t' := s1.toks) (fun b u e => Heap.get?_push_of_some _ e) (Nat.le_refl _) ?_, rfl, q _ _ hf rfl rfl⟩
  exact ⟨Heap.get?_push_size _ rfl, z, us, r, ⟨_, Heap.get?_push_size _ rfl, rfl, _, rfl⟩⟩
theorem rp_newT {ho : Ho} {H : Hp} {N : Addr → Prop} {p : Addr} {o : Obj} {vs : List V} {ys : List D} (c : Hc ho N H) (hp : H p = none) (hc : o.cls = .type "tuple") (hd : o.dict = none) (r : RpA ho H N vs ys) : Rp ho (upd H p (.frz o (.tup vs))) N (.ref p) (.tup ys) :=
  .tup (c.off hp) upd_same hc hd (r.ext (Ext.new hp))
theorem fr_new {ho : Ho} {H : Hp} {N : Addr → Prop} {p : Addr} {vs : List V} {ys : List D} (hp : H p = none) (r : RpA ho H N vs ys) : Fr ho H N (upd H p (.lst vs)) (.ref p) (.lst ys) :=
  ⟨p, vs, ys, rfl, rfl, hp, upd_same, (r.put hp).ext (Ext.new hp)⟩
theorem d_tup {x1} (h : PA X es (upA W Ow O ds)) : PE X (.Tuple es x1 pos) (upE W Ow O (dTup ds)) := pe_weak (pe_tupN h) fun σ H Q ⟨g, δ, P, er, r, w, q, k⟩ => ⟨g, δ, _, er, r, w, q, fun ys ⟨py, pp⟩ vs H1 s1 r1 => ⟨by rw [r1.length]; exact py, fun p o hp hc hd => k _ pp _ _ (s1.trans (Ext.new hp)) (rp_newT (r.ext s1).hc hp hc hd r1)⟩⟩
theorem f_lst (h : PA X es (upA W Ow O ds)) : PE X (.List es pos) (upF W Ow O (dLst ds)) := pe_weak (pe_lst h) fun σ H Q ⟨g, δ, P, er, r, w, q, k⟩ => ⟨g, δ, _, er, r, w, q, fun ys ⟨py, pp⟩ vs H1 s1 r1 => ⟨by rw [r1.length]; exact py, fun p hp => k _ pp _ _ (s1.trans (Ext.new hp)) (rF r.hc s1 (fr_new hp r1))⟩⟩
/-! ### calls of own defs -/
abbrev SpD := List D → (D → Prop) → DX → Prop
/-- a promise by data, as a promise -/
def spOf (s : SpD) : Sp := fun vs H Q E => ∃ (N : Addr → Prop) (ho : Ho) (ds : List D) (P : D → Prop) (er : DX), (∀ a, N a → H a ≠ none) ∧ (∀ h q, ho = some (h, q) → HandAt H h q) ∧ RpA ho H N vs ds ∧ s ds P er ∧
  (∀ y, P y → ∀ v H', Ext ho H H' → Rp ho H' N v y → Q v H') ∧ ∀ C fs, er C fs → ∀ dd H', Ext ho H H' → XAt ho H' dd fs → E (.ref C) dd H'
def dCall (s : SpD) (dvs : List D) (xs : DAr) : DE := fun er δ P => xs er δ fun ys => s (ys ++ dvs) P er
/-- the arguments may be owned lists; the answer holds no list -/
def dCallV (s : SpD) (dvs : List D) (xs : DAr) : DE := fun er δ P => xs er δ fun ys => s (ys ++ dvs) (fun y => y.noL = true ∧ P y) er
/-- the answer is a new list: nothing that is handed over holds a list -/
def dCallF (s : SpD) (dvs : List D) (xs : DAr) : DE := fun er δ P => xs er δ fun ys => D.noLA (ys ++ dvs) = true ∧ s (ys ++ dvs) (fun y => (∃ zs, y = .lst zs ∧ D.noLA zs = true) ∧ P y) er
theorem wok_call {g : G} {σ : L2.St} {δ : DSt} {er : DX} {H H1 : Hp} (hO : ∀ i, i ∈ Ow → i ∈ O) (rl : Rel g O H σ δ) (w : WOk W Ow g σ δ er) (s1 : Ext g.ho H H1) :
    ∀ C fs, er C fs → ∀ dd H', Ext g.ho H1 H' → XAt g.ho H' dd fs → WE W σ (.ref C) dd H' := fun C fs hx dd H' s2 z => w C fs hx dd H' (((rl.ext s1).ext s2).less hO) z
variable {CX : CXT} {k : Nat} {fa : Addr} {fd : FuncData} {ps : List Str} {sd : SpD} {dvs : List V} {dds : List D} {vds : List Value}
theorem d_call (hO : ∀ i, i ∈ Ow → i ∈ O) (F : FnOk X.prog X.w X.K X.mg X.base CX k fa fd ps (spOf sd)) (hr : Room k X.A) (hg : Gl X x) (hm : X.mg x = some (.ref fa)) (hk : PySem.W.keepIn X.K (.ref fa) = true) (hb : L2.Binds X.K fd ps vds) (hd : Vals dvs vds) (hv : ∀ ho H N, RpA ho H N dvs dds)
    (hx : ∀ σ, PassesAt CX X σ (WE W σ)) (ha : PA X (e :: es) (upA W Ow O ds)) (hdb : (x == ("__debug__" : Str)) = false := by decide) (he : starEach (e :: es) X.env = (false, eval e X.env) :: starEach es X.env := by rfl) (hpl : (backTo pos (starEach es X.env)).any (·.1) = false := by rfl) :
    PE X (.Call (.Name x p) (e :: es) [] pos) (upE W Ow O (dCall sd dds ds)) :=
  pe_weak (pe_callSD F hr hg hm hk hb hd hx ha hdb he hpl) fun σ H Q ⟨g, δ, P, er, rl, w, q, kk⟩ => ⟨g, δ, _, er, rl, w, q, fun ys py vs H1 s1 r1 =>
    ⟨NM g O σ δ, g.ho, ys ++ dds, P, er, (rl.ext s1).hc.all, (rl.ext s1).hc.hand, r1.append (hv _ _ _), py, fun y p v H' s2 z => kk y p v H' (s1.trans s2) z, wok_call hO rl w s1⟩⟩
theorem RvA.low {ho : Ho} {H : Hp} {N : Addr → Prop} : ∀ {vs : List V} {ds : List D}, RvA ho H N vs ds → RpA ho H (fun a => N a ∧ V.ref a ∉ vs) vs ds := by
  have go : ∀ (ws : List V) {vs : List V} {ds : List D}, (∀ v, v ∈ vs → v ∈ ws) → RvA ho H N vs ds → RpA ho H (fun a => N a ∧ V.ref a ∉ ws) vs ds := by
    intro ws vs ds
    induction ds generalizing vs with
    | nil =>
      intro _ h
      cases h
      exact .nil
    | cons x xs ih =>
      intro hm h
      cases h with | cons h t =>
      refine .cons ?_ (ih (fun v hv => hm v (List.mem_cons_of_mem _ hv)) t)
      have m := hm _ List.mem_cons_self
      rcases h with h | ⟨a, us, es, h1, h2, h3, h4, h5⟩
      · exact h.mono (fun _ _ e _ => e) fun _ _ _ z => z.1
      · subst h1 h2
        exact .lst (fun z => z.2 m) h3 h4 (h5.mono (fun _ _ e _ => e) fun _ _ _ z => z.1)
  intro vs ds h
  exact go vs (fun _ z => z) h
theorem d_callV (hO : ∀ i, i ∈ Ow → i ∈ O) (F : FnOk X.prog X.w X.K X.mg X.base CX k fa fd ps (spOf sd)) (hr : Room k X.A) (hg : Gl X x) (hm : X.mg x = some (.ref fa)) (hk : PySem.W.keepIn X.K (.ref fa) = true) (hb : L2.Binds X.K fd ps vds) (hd : Vals dvs vds) (hv : ∀ ho H N, RpA ho H N dvs dds)
    (hx : ∀ σ, PassesAt CX X σ (WE W σ)) (ha : PA X (e :: es) (upAV W Ow O ds)) (hdb : (x == ("__debug__" : Str)) = false := by decide) (he : starEach (e :: es) X.env = (false, eval e X.env) :: starEach es X.env := by rfl) (hpl : (backTo pos (starEach es X.env)).any (·.1) = false := by rfl) :
    PE X (.Call (.Name x p) (e :: es) [] pos) (upE W Ow O (dCallV sd dds ds)) :=
  pe_weak (pe_callSD F hr hg hm hk hb hd hx ha hdb he hpl) fun σ H Q ⟨g, δ, P, er, rl, w, q, kk⟩ => ⟨g, δ, _, er, rl, w, q, fun ys py vs H1 s1 r1 =>
    ⟨_, g.ho, ys ++ dds, _, er, fun a z => (rl.ext s1).hc.all a z.1, (rl.ext s1).hc.hand, r1.low.append (hv _ _ _), py, fun y p v H' s2 z => kk y p.2 v H' (s1.trans s2) (z.noL p.1), wok_call hO rl w s1⟩⟩
theorem f_call (hO : ∀ i, i ∈ Ow → i ∈ O) (F : FnOk X.prog X.w X.K X.mg X.base CX k fa fd ps (spOf sd)) (hr : Room k X.A) (hg : Gl X x) (hm : X.mg x = some (.ref fa)) (hk : PySem.W.keepIn X.K (.ref fa) = true) (hb : L2.Binds X.K fd ps vds) (hd : Vals dvs vds) (hv : ∀ ho H N, RpA ho H N dvs dds)
    (hx : ∀ σ, PassesAt CX X σ (WE W σ)) (ha : PA X (e :: es) (upA W Ow O ds)) (hdb : (x == ("__debug__" : Str)) = false := by decide) (he : starEach (e :: es) X.env = (false, eval e X.env) :: starEach es X.env := by rfl) (hpl : (backTo pos (starEach es X.env)).any (·.1) = false := by rfl) :
    PE X (.Call (.Name x p) (e :: es) [] pos) (upF W Ow O (dCallF sd dds ds)) :=
  pe_weak (pe_callSD F hr hg hm hk hb hd hx ha hdb he hpl) fun σ H Q ⟨g, δ, P, er, rl, w, q, kk⟩ => ⟨g, δ, _, er, rl, w, q, fun ys py vs H1 s1 r1 =>
    ⟨fun a => H1 a ≠ none, g.ho, ys ++ dds, _, er, fun a z => z, (rl.ext s1).hc.hand, (r1.append (hv _ _ _)).noL py.1, py.2, fun y p v H' s2 z => by
      obtain ⟨⟨zs, ey, hz⟩, pp⟩ := p
      subst ey
      cases z with | @lst a vs2 _ nN of ea rr =>
      refine kk _ pp _ H' (s1.trans s2) (rF rl.hc s1 ⟨a, vs2, zs, rfl, rfl, ?_, ea, rr.noL hz⟩)
      cases q : H1 a with
      | none => rfl
      | some o => exact (nN (by rw [q]; intro z; cases z)).elim, wok_call hO rl w s1⟩⟩
/-! ### attributes of own instances -/
def dFld (Cs : List Addr) (n : Str) (x : DE) : DE := fun er δ P => x er δ fun y => ∃ C fs z, y = .ins C fs ∧ C ∈ Cs ∧ fs.lookup n = some z ∧ P z
theorem d_fld {Cs : List Addr} {n : Str} (hC : ∀ C, C ∈ Cs → Cls X.K C ∧ NoAttr X.K C n) (h : PE X e (upE W Ow O d)) (hb : attributeBase e n X.env (eval e X.env) = eval e X.env := by rfl) : PE X (.Attribute e n pos) (upE W Ow O (dFld Cs n d)) :=
  pe_weak (pe_fld h hb) fun σ H Q ⟨g, δ, P, er, r, w, q, k⟩ => ⟨g, δ, _, er, r, w, q, fun y ⟨C, fs, z, ey, hm, hl, pz⟩ v H' s rv => by
    subst ey
    cases rv with | @ins a _ dx vs _ of ea rr =>
    obtain ⟨u, h1, h2⟩ := rr.lookup hl
    exact ⟨a, C, dx, vs, u, rfl, ea, (hC C hm).1, (hC C hm).2, h1, k z pz u H' s h2⟩⟩
end
end DL
set_option Elab.async false
set_option linter.all false
set_option maxRecDepth 100000
set_option maxHeartbeats 4000000
namespace DL
open PySem PySem.Spec PyProof.Rows L2 Gen
/-! ### operators by data -/
theorem OpR.or {X : Cx} {f : Value → Value → Sem Value} {r r' : R2} (h : OpR X f r) (h' : OpR X f r') : OpR X f (fun x y H Q => r x y H Q ∨ r' x y H Q) := by
  intro pins s σ H x y v u Q I rx ry q
  rcases q with q | q
  · exact h pins s σ H x y v u Q I rx ry q
  · exact h' pins s σ H x y v u Q I rx ry q
theorem CallR.or {X : Cx} {f : Value} {r r' : List V → Hp → VK → Prop} (h : CallR X f r) (h' : CallR X f r') : CallR X f (fun xs H Q => r xs H Q ∨ r' xs H Q) := by
  intro pins s σ H xs us Q I rx q
  rcases q with q | q
  · exact h pins s σ H xs us Q I rx q
  · exact h' pins s σ H xs us Q I rx q
def fSub : D → D → (D → Prop) → Prop
  | .int i, .int j, P => P (.int (i - j))
  | _, _, _ => False
theorem l_sub : Lift2 fSub (rI0 fun i j => .int (i - j)) := by
  intro ho N H c x y v u P Q hx hy h k
  cases x <;> cases y <;> simp only [fSub] at h <;> try exact h.elim
  exact ⟨_, _, rv_int hx, rv_int hy, k _ h _ H .refl (.int _)⟩
def fDiv : D → D → (D → Prop) → Prop
  | .int i, .int j, P => 0 < j ∧ j < 9223372036854775808 ∧ P (.int (i / j))
  | _, _, _ => False
theorem l_div : Lift2 fDiv (rI CDivW fun i j => .int (i / j)) := by
  intro ho N H c x y v u P Q hx hy h k
  cases x <;> cases y <;> simp only [fDiv] at h <;> try exact h.elim
  exact ⟨_, _, rv_int hx, rv_int hy, cdw h.1 h.2.1, k _ h.2.2 _ H .refl (.int _)⟩
def fMod : D → D → (D → Prop) → Prop
  | .int i, .int j, P => 0 < j ∧ P (.int (i % j))
  | _, _, _ => False
theorem l_mod : Lift2 fMod (rI (fun _ j => 0 < j) fun i j => .int (i % j)) := by
  intro ho N H c x y v u P Q hx hy h k
  cases x <;> cases y <;> simp only [fMod] at h <;> try exact h.elim
  exact ⟨_, _, rv_int hx, rv_int hy, h.1, k _ h.2 _ H .refl (.int _)⟩
/-- i ** j, both written or small -/
def fPow : D → D → (D → Prop) → Prop
  | .int i, .int j, P => (0 ≤ j ∧ j ≤ 1000 ∧ 0 ≤ i ∧ i ≤ 1000) ∧ P (.int (i ^ j.toNat))
  | _, _, _ => False
theorem l_pow : Lift2 fPow (rI CPow fun i j => .int (i ^ j.toNat)) := by
  intro ho N H c x y v u P Q hx hy h k
  cases x <;> cases y <;> simp only [fPow] at h <;> try exact h.elim
  obtain ⟨⟨h1, h2, h3, h4⟩, h⟩ := h
  refine ⟨_, _, rv_int hx, rv_int hy, ⟨h1, by omega, ?_⟩, k _ h _ H .refl (.int _)⟩
  have : (2 : Nat) ^ 64 = 18446744073709551616 := by decide
  omega
/-! tuples that are known to be plain -/
def rCatN : R2 := fun x y H Q => ∃ a b xs ys, x = .ref a ∧ y = .ref b ∧ TupN H a xs ∧ TupN H b ys ∧ xs.length + ys.length ≤ sizeLine ∧
  (xs = [] → Q (.ref b) H) ∧ (xs ≠ [] → ys = [] → Q (.ref a) H) ∧ (xs ≠ [] → ys ≠ [] → ∀ (p : Addr) (o : Obj), H p = none → o.cls = .type "tuple" → o.dict = none → Q (.ref p) (upd H p (.frz o (.tup (xs ++ ys)))))
section
variable {X : Cx}
theorem op_catN : OpR X (binaryOp .Add) rCatN := by
  intro pins s σ H x y v u Q I rx ry h
  obtain ⟨a, b, xs, ys, rfl, rfl, ha, hb, hz, q0, q1, q2⟩ := h
  cases rx
  cases ry
  obtain ⟨its, r1, p1, _⟩ := I.tuple (ha.sq (K := X.K))
  obtain ⟨its2, r2, p2, _⟩ := I.tuple (hb.sq (K := X.K))
  by_cases hx : xs = []
  · subst hx
    cases r1
    exact cat_tup0 p1 p2 ⟨.ref b, H, I, rfl, q0 rfl⟩
  · refine HT.cat_tup p1 p2 (fun z => hx (r1.nil_iff.mp z)) (fun z => ⟨.ref a, H, I, rfl, q1 hx (r2.nil_iff.mp z)⟩) (fun z => ?_) (by rw [← r1.length, ← r2.length]; exact hz)
    refine ⟨.ref s.heap.objs.size, _, I.laid (t' := s.toks) (o := .frz { cls := .type "tuple", data := .seq (its ++ its2).toArray } (.tup (xs ++ ys))) (fun b ob q => Heap.get?_push_of_some _ q) (Nat.le_refl _) ?_, rfl, q2 hx (fun w => z (r2.nil_iff.mpr w)) _ _ (I.hok.fresh (Nat.le_refl _)) rfl rfl⟩
    exact ⟨Heap.get?_push_size _ rfl, by rw [List.length_append]; exact hz, _, r1.append r2, IsTup.new _ _⟩
/-- t[lo:hi]: the whole of it is t itself -/
def rSlN : V → Option Int → Option Int → Hp → VK → Prop := fun x lo hi H Q => ∃ a xs, x = .ref a ∧ TupN H a xs ∧
  (HT.sIx xs.length 0 lo = 0 ∧ HT.sIx xs.length xs.length hi = xs.length → Q (.ref a) H) ∧ (¬ (HT.sIx xs.length 0 lo = 0 ∧ HT.sIx xs.length xs.length hi = xs.length) → ∀ (p : Addr) (o : Obj), H p = none → o.cls = .type "tuple" → o.dict = none → Q (.ref p) (upd H p (.frz o (.tup (cutV xs lo hi)))))
theorem sl_tupN : SlR X rSlN := by
  intro pins s σ H x v vl vu lo hi sl Q I rx hs pl pu h
  obtain ⟨a, xs, rfl, hx, q1, q2⟩ := h
  cases rx
  obtain ⟨its, r, ht, hz⟩ := I.tuple (hx.sq (K := X.K))
  have hlen : its.toArray.size = xs.length := by rw [List.size_toArray]; exact r.length.symm
  refine ⟨"tuple", _, PyProof.Rows.slot_tuple_getitem.lookup, ht.typeIs, ?_⟩
  by_cases hw : HT.sIx xs.length 0 lo = 0 ∧ HT.sIx xs.length xs.length hi = xs.length
  · exact getItem_tuple_whole ht hs pl pu (by rw [hlen]; exact hw) ⟨.ref a, H, I, rfl, q1 hw⟩
  · refine HT.getItem_tuple_cut ht hs pl pu (by rw [hlen]; exact hw) ?_ (by rw [hlen]; exact hz)
    rw [hlen]
    refine ⟨.ref s.heap.objs.size, _, I.laid (t' := s.toks) (o := .frz _ (.tup (cutV xs lo hi))) (fun b ob q => Heap.get?_push_of_some _ q) (Nat.le_refl _) ⟨Heap.get?_push_size _ rfl, ?_⟩, rfl, q2 hw _ _ (I.hok.fresh (Nat.le_refl _)) rfl rfl⟩
    exact ⟨Nat.le_trans (cutV_length xs lo hi) hz, _, (r.drop (HT.sIx xs.length 0 lo)).take (HT.sIx xs.length xs.length hi - HT.sIx xs.length 0 lo), IsTup.new _ _⟩
def rRepN : R2 := fun x y H Q => ∃ l k xs, x = .ref l ∧ y = .int k ∧ TupN H l xs ∧ xs ≠ [] ∧ 2 ≤ k ∧ k ≤ 1000 ∧ xs.length ≤ 1000 ∧ ∀ (p : Addr) (o : Obj), H p = none → o.cls = .type "tuple" → o.dict = none → Q (.ref p) (upd H p (.frz o (.tup (List.replicate k.toNat xs).flatten)))
end
/-! + -/
def fAdd : D → D → (D → Prop) → Prop
  | .int i, .int j, P => P (.int (i + j))
  | .lst a, .lst b, P => a.length + b.length ≤ sizeLine ∧ P (.lst (a ++ b))
  | .tup a, .tup b, P => a.length + b.length ≤ sizeLine ∧ P (.tup (a ++ b))
  | .str a, .str b, P => a.length + b.length ≤ sizeLine ∧ P (.str (a ++ b))
  | _, _, _ => False
def rAdd4 : R2 := fun x y H Q => (rI0 (fun i j => .int (i + j)) x y H Q) ∨ rCat x y H Q ∨ rCatN x y H Q ∨ ∃ i j, x = .str i ∧ y = .str j ∧ i.length + j.length ≤ sizeLine ∧ Q (.str (i ++ j)) H
theorem op_add4 {X : Cx} : OpR X (binaryOp .Add) rAdd4 := OpR.or op_add (OpR.or op_cat (OpR.or op_catN op_add_str))
theorem l_add : Lift2 fAdd rAdd4 := by
  intro ho N H c x y v u P Q hx hy h k
  cases x <;> cases y <;> simp only [fAdd] at h <;> try exact h.elim
  · exact .inl ⟨_, _, rv_int hx, rv_int hy, k _ h _ H .refl (.int _)⟩
  · exact .inr (.inr (.inr ⟨_, _, rv_str hx, rv_str hy, h.1, k _ h.2 _ H .refl (.str _)⟩))
  · obtain ⟨a, vs, rfl, _, ea, ra⟩ := rv_lst hx
    obtain ⟨b, ws, rfl, _, eb, rb⟩ := rv_lst hy
    exact .inr (.inl ⟨a, b, vs, ws, rfl, rfl, ea, eb, by rw [ra.length, rb.length]; exact h.1, fun p hp => k _ h.2 _ _ (Ext.new hp) ((fr_new hp (ra.append rb)).rp c)⟩)
  · obtain ⟨a, vs, rfl, oa, ea, ra⟩ := rv_tup hx
    obtain ⟨b, ws, rfl, ob, eb, rb⟩ := rv_tup hy
    refine .inr (.inr (.inl ⟨a, b, vs, ws, rfl, rfl, ea, eb, by rw [ra.length, rb.length]; exact h.1, fun e => ?_, fun _ e => ?_, fun _ _ p o hp hc hd => k _ h.2 _ _ (Ext.new hp) (rp_newT c hp hc hd (ra.append rb))⟩))
    · subst e
      cases ra
      obtain ⟨o, e1, e2, e3⟩ := eb
      exact k _ h.2 _ H .refl (.tup ob e1 e2 e3 rb)
    · subst e
      cases rb
      obtain ⟨o, e1, e2, e3⟩ := ea
      exact k _ h.2 _ H .refl (by rw [List.append_nil]; exact .tup oa e1 e2 e3 ra)
def fCat : D → D → (D → Prop) → Prop
  | .lst a, .lst b, P => a.length + b.length ≤ sizeLine ∧ P (.lst (a ++ b))
  | _, _, _ => False
theorem l_cat : LiftF2 fCat rCat := by
  intro ho N H c x y v u P Q hx hy h k
  cases x <;> cases y <;> simp only [fCat] at h <;> try exact h.elim
  obtain ⟨a, vs, rfl, _, ea, ra⟩ := rv_lst hx
  obtain ⟨b, ws, rfl, _, eb, rb⟩ := rv_lst hy
  exact ⟨a, b, vs, ws, rfl, rfl, ea, eb, by rw [ra.length, rb.length]; exact h.1, fun p hp => k _ h.2 _ _ (Ext.new hp) (fr_new hp (ra.append rb))⟩
/-! * -/
theorem RpA.rep {ho : Ho} {H : Hp} {N : Addr → Prop} {vs : List V} {ds : List D} (r : RpA ho H N vs ds) : ∀ n : Nat, RpA ho H N (List.replicate n vs).flatten (List.replicate n ds).flatten
  | 0 => .nil
  | n + 1 => by
    rw [List.replicate_succ, List.replicate_succ, List.flatten_cons, List.flatten_cons]
    exact r.append (RpA.rep r n)
def fMul : D → D → (D → Prop) → Prop
  | .int i, .int j, P => ((-18446744073709551616 < i ∧ i < 18446744073709551616) ∨ (-18446744073709551616 < j ∧ j < 18446744073709551616)) ∧ P (.int (i * j))
  | .lst a, .int k, P => (0 ≤ k ∧ k ≤ 1000 ∧ a.length ≤ 1000) ∧ P (.lst (List.replicate k.toNat a).flatten)
  | _, _, _ => False
def rMul2 : R2 := fun x y H Q => rI CMul (fun i j => .int (i * j)) x y H Q ∨ rRep x y H Q
theorem op_mul2 {X : Cx} : OpR X (binaryOp .Mult) rMul2 := OpR.or op_mul op_rep
theorem rep_line {n : Nat} {k : Int} (h0 : 0 ≤ k) (h1 : k ≤ 1000) (h2 : n ≤ 1000) : n * k.toNat ≤ sizeLine := by
  have a : n * k.toNat ≤ 1000 * 1000 := Nat.mul_le_mul h2 (by omega)
  exact Nat.le_trans a (by decide)
theorem l_mul : Lift2 fMul rMul2 := by
  intro ho N H c x y v u P Q hx hy h k
  cases x <;> cases y <;> simp only [fMul] at h <;> try exact h.elim
  · refine .inl ⟨_, _, rv_int hx, rv_int hy, ?_, k _ h.2 _ H .refl (.int _)⟩
    rcases h.1 with h | h
    · exact cml h.1 h.2
    · exact cmr h.1 h.2
  · obtain ⟨a, vs, rfl, _, ea, ra⟩ := rv_lst hx
    exact .inr ⟨a, _, vs, rfl, rv_int hy, ea, by omega, by omega, by rw [ra.length]; exact rep_line h.1.1 h.1.2.1 h.1.2.2, fun p hp => k _ h.2 _ _ (Ext.new hp) ((fr_new hp (ra.rep _)).rp c)⟩
def fRep : D → D → (D → Prop) → Prop
  | .lst a, .int k, P => (0 ≤ k ∧ k ≤ 1000 ∧ a.length ≤ 1000) ∧ P (.lst (List.replicate k.toNat a).flatten)
  | _, _, _ => False
theorem l_rep : LiftF2 fRep rRep := by
  intro ho N H c x y v u P Q hx hy h k
  cases x <;> cases y <;> simp only [fRep] at h <;> try exact h.elim
  obtain ⟨a, vs, rfl, _, ea, ra⟩ := rv_lst hx
  exact ⟨a, _, vs, rfl, rv_int hy, ea, by omega, by omega, by rw [ra.length]; exact rep_line h.1.1 h.1.2.1 h.1.2.2, fun p hp => k _ h.2 _ _ (Ext.new hp) (fr_new hp (ra.rep _))⟩
/-! comparisons of ints -/
def fLt : D → D → (D → Prop) → Prop
  | .int i, .int j, P => P (.bl (decide (i < j)))
  | _, _, _ => False
def fLe : D → D → (D → Prop) → Prop
  | .int i, .int j, P => P (.bl (decide (i ≤ j)))
  | _, _, _ => False
def fGt : D → D → (D → Prop) → Prop
  | .int i, .int j, P => P (.bl (decide (j < i)))
  | _, _, _ => False
def fGe : D → D → (D → Prop) → Prop
  | .int i, .int j, P => P (.bl (decide (j ≤ i)))
  | _, _, _ => False
theorem l_lt : Lift2 fLt (rI0 fun i j => .bl (decide (i < j))) := by
  intro ho N H c x y v u P Q hx hy h k
  cases x <;> cases y <;> simp only [fLt] at h <;> try exact h.elim
  exact ⟨_, _, rv_int hx, rv_int hy, k _ h _ H .refl (.bl _)⟩
theorem l_le : Lift2 fLe (rI0 fun i j => .bl (decide (i ≤ j))) := by
  intro ho N H c x y v u P Q hx hy h k
  cases x <;> cases y <;> simp only [fLe] at h <;> try exact h.elim
  exact ⟨_, _, rv_int hx, rv_int hy, k _ h _ H .refl (.bl _)⟩
theorem l_gt : Lift2 fGt (rI0 fun i j => .bl (decide (j < i))) := by
  intro ho N H c x y v u P Q hx hy h k
  cases x <;> cases y <;> simp only [fGt] at h <;> try exact h.elim
  exact ⟨_, _, rv_int hx, rv_int hy, k _ h _ H .refl (.bl _)⟩
theorem l_ge : Lift2 fGe (rI0 fun i j => .bl (decide (j ≤ i))) := by
  intro ho N H c x y v u P Q hx hy h k
  cases x <;> cases y <;> simp only [fGe] at h <;> try exact h.elim
  exact ⟨_, _, rv_int hx, rv_int hy, k _ h _ H .refl (.bl _)⟩
/-! is None -/
def D.isNon : D → Bool
  | .non => true
  | _ => false
def D.notRaw : D → Bool
  | .raw _ => false
  | _ => true
theorem rv_isNon {ho : Ho} {H : Hp} {N : Addr → Prop} {v : V} {y : D} (h : Rv ho H N v y) (n : y.notRaw = true) : decide (v = V.non) = y.isNon := by
  rcases h with h | ⟨a, _, _, rfl, rfl, _⟩
  · cases h with
    | non => rfl
    | raw v => cases n
    | _ => exact decide_eq_false (by intro z; cases z)
  · exact decide_eq_false (by intro z; cases z)
def fIs : D → D → (D → Prop) → Prop
  | x, .non, P => x.notRaw = true ∧ P (.bl x.isNon)
  | _, _, _ => False
def fIsNot : D → D → (D → Prop) → Prop
  | x, .non, P => x.notRaw = true ∧ P (.bl (!x.isNon))
  | _, _, _ => False
theorem l_is : Lift2 fIs (fun x y H Q => y = .non ∧ Q (.bl (decide (x = .non))) H) := by
  intro ho N H c x y v u P Q hx hy h k
  cases y <;> simp only [fIs] at h <;> try exact h.elim
  refine ⟨rv_non hy, ?_⟩
  rw [rv_isNon hx h.1]
  exact k _ h.2 _ H .refl (.bl _)
theorem l_isNot : Lift2 fIsNot (fun x y H Q => y = .non ∧ Q (.bl (!decide (x = .non))) H) := by
  intro ho N H c x y v u P Q hx hy h k
  cases y <;> simp only [fIsNot] at h <;> try exact h.elim
  refine ⟨rv_non hy, ?_⟩
  rw [rv_isNon hx h.1]
  exact k _ h.2 _ H .refl (.bl _)
/-! == of data -/
mutual
def D.pd : D → PyData
  | .non => .none
  | .ty _ => .none
  | .ins _ _ => .none
  | .hand => .none
  | .dk => .none
  | .exc _ _ _ _ _ => .none
  | .raw _ => .none
  | .bl b => .bool b
  | .int i => .int i
  | .str x => .str x
  | .lst xs => .list (D.pdA xs)
  | .tup xs => .tuple (D.pdA xs)
def D.pdA : List D → List PyData
  | [] => []
  | x :: xs => x.pd :: D.pdA xs
end
mutual
/-- data that == can compare, n deep -/
def D.shp : Nat → D → Bool
  | _, .non => true
  | _, .bl _ => true
  | _, .int _ => true
  | _, .str x => PyData.strOk x
  | 0, .lst _ => false
  | 0, .tup _ => false
  | n + 1, .lst xs => D.shpA n xs
  | n + 1, .tup xs => D.shpA n xs
  | _, _ => false
def D.shpA : Nat → List D → Bool
  | _, [] => true
  | n, x :: xs => D.shp n x && D.shpA n xs
end
mutual
theorem D.lay : ∀ (n : Nat) (x : D), D.shp n x = true → x.pd.canLay0 = true ∧ x.pd.depth ≤ n
  | n, .non, _ => ⟨by simp [D.pd, PyData.canLay0], by simp [D.pd, PyData.depth]⟩
  | n, .bl _, _ => ⟨by simp [D.pd, PyData.canLay0], by simp [D.pd, PyData.depth]⟩
  | n, .int _, _ => ⟨by simp [D.pd, PyData.canLay0], by simp [D.pd, PyData.depth]⟩
  | n, .str x, h => ⟨by simpa [D.pd, PyData.canLay0, D.shp] using h, by simp [D.pd, PyData.depth]⟩
  | 0, .lst _, h => by simp [D.shp] at h
  | 0, .tup _, h => by simp [D.shp] at h
  | n + 1, .lst xs, h => by
    obtain ⟨h1, h2⟩ := D.layA n xs (by simpa [D.shp] using h)
    exact ⟨by simpa [D.pd, PyData.canLay0] using h1, by simp only [D.pd, PyData.depth]; omega⟩
  | n + 1, .tup xs, h => by
    obtain ⟨h1, h2⟩ := D.layA n xs (by simpa [D.shp] using h)
    exact ⟨by simpa [D.pd, PyData.canLay0] using h1, by simp only [D.pd, PyData.depth]; omega⟩
  | n, .ty _, h => by simp [D.shp] at h
  | n, .ins _ _, h => by simp [D.shp] at h
  | n, .hand, h => by simp [D.shp] at h
  | n, .dk, h => by simp [D.shp] at h
  | n, .exc _ _ _ _ _, h => by simp [D.shp] at h
  | n, .raw _, h => by simp [D.shp] at h
theorem D.layA : ∀ (n : Nat) (xs : List D), D.shpA n xs = true → PyData.canLayAll0 (D.pdA xs) = true ∧ PyData.depthAll (D.pdA xs) ≤ n
  | n, [], _ => ⟨by simp [D.pdA, PyData.canLayAll0], by simp [D.pdA, PyData.depthAll]⟩
  | n, x :: xs, h => by
    simp only [D.shpA, Bool.and_eq_true] at h
    obtain ⟨h1, h2⟩ := D.lay n x h.1
    obtain ⟨h3, h4⟩ := D.layA n xs h.2
    exact ⟨by simp [D.pdA, PyData.canLayAll0, h1, h3], by simp only [D.pdA, PyData.depthAll]; omega⟩
end
theorem D.shaped {x : D} (h : D.shp 60 x = true) : SeqAt.shaped x.pd = true := by
  obtain ⟨h1, h2⟩ := D.lay 60 x h
  show (PyData.canLay0 x.pd && decide (PyData.depth x.pd ≤ 64)) = true
  rw [h1, Bool.true_and]
  exact decide_eq_true (by omega)
section
variable {ho : Ho} {H : Hp} {N : Addr → Prop} {K : PySem.W.Frag}
mutual
theorem Rp.dp : ∀ {n : Nat} {v : V} {d : D}, Rp ho H N v d → D.shp n d = true → Dp K H v d.pd
  | _, _, _, .non, _ => by rw [D.pd]; exact .non
  | _, _, _, .bl b, _ => by rw [D.pd]; exact .bl b
  | _, _, _, .int i, _ => by rw [D.pd]; exact .int i
  | _, _, _, .str x, _ => by rw [D.pd]; exact .str x
  | 0, _, _, .lst nN of e r, h => by simp [D.shp] at h
  | 0, _, _, .tup of e hc hd r, h => by simp [D.shp] at h
  | n + 1, _, _, .lst nN of e r, h => by rw [D.pd]; exact .lst (SqL.of e) (RpA.dp r (by simpa [D.shp] using h))
  | n + 1, _, _, .tup of e hc hd r, h => by rw [D.pd]; exact .tup (.inl (.inr ⟨_, e⟩)) (RpA.dp r (by simpa [D.shp] using h))
  | _, _, _, .ty x, h => by simp [D.shp] at h
  | _, _, _, .ins _ _ _, h => by simp [D.shp] at h
  | _, _, _, .hand _, h => by simp [D.shp] at h
  | _, _, _, .dk _ _, h => by simp [D.shp] at h
  | _, _, _, .exc _ _ _ _, h => by simp [D.shp] at h
  | _, _, _, .raw _, h => by simp [D.shp] at h
theorem RpA.dp : ∀ {n : Nat} {vs : List V} {ds : List D}, RpA ho H N vs ds → D.shpA n ds = true → DpAll K H vs (D.pdA ds)
  | _, _, _, .nil, _ => by rw [D.pdA]; exact .nil
  | n, _, _, .cons h t, e => by
    simp only [D.shpA, Bool.and_eq_true] at e
    rw [D.pdA]
    exact .cons (Rp.dp h e.1) (RpA.dp t e.2)
end
theorem Rv.dp {v : V} {d : D} (h : Rv ho H N v d) (e : D.shp 60 d = true) : Dp K H v d.pd := by
  rcases h with h | ⟨a, vs, ds, rfl, rfl, _, h4, h5⟩
  · exact h.dp e
  · rw [D.pd]
    exact .lst (SqL.of h4) (h5.dp (n := 59) (by simpa [D.shp] using e))
end
def fEq : D → D → (D → Prop) → Prop := fun x y P => D.shp 60 x = true ∧ D.shp 60 y = true ∧ P (.bl (PyData.eqv x.pd y.pd))
def fNe : D → D → (D → Prop) → Prop := fun x y P => D.shp 60 x = true ∧ D.shp 60 y = true ∧ P (.bl (!PyData.eqv x.pd y.pd))
theorem l_eq {K : PySem.W.Frag} : Lift2 fEq (rEqD K) := by
  intro ho N H c x y v u P Q hx hy h k
  exact ⟨_, _, hx.dp h.1, hy.dp h.2.1, D.shaped h.1, D.shaped h.2.1, k _ h.2.2 _ H .refl (.bl _)⟩
theorem l_ne {K : PySem.W.Frag} : Lift2 fNe (rNeD K) := by
  intro ho N H c x y v u P Q hx hy h k
  exact ⟨_, _, hx.dp h.1, hy.dp h.2.1, D.shaped h.1, D.shaped h.2.1, k _ h.2.2 _ H .refl (.bl _)⟩
/-! in, of flat things -/
def D.flat : D → Bool
  | .non => true
  | .bl _ => true
  | .int _ => true
  | .str _ => true
  | _ => false
def D.fl : D → V
  | .bl b => .bl b
  | .int i => .int i
  | .str x => .str x
  | _ => .non
theorem rv_flat {ho : Ho} {H : Hp} {N : Addr → Prop} {v : V} {d : D} (h : Rv ho H N v d) (f : d.flat = true) : v = d.fl ∧ flatV v = true := by
  rcases h with h | ⟨_, _, _, _, rfl, _⟩
  · cases h <;> first | exact ⟨rfl, rfl⟩ | cases f
  · cases f
theorem rpA_flat {ho : Ho} {H : Hp} {N : Addr → Prop} : ∀ {vs : List V} {ds : List D}, RpA ho H N vs ds → ds.all D.flat = true → vs = ds.map D.fl ∧ vs.all flatV = true
  | _, _, .nil, _ => ⟨rfl, rfl⟩
  | _, _, .cons h t, e => by
    rw [List.all_cons, Bool.and_eq_true] at e
    obtain ⟨h1, h2⟩ := rv_flat (.inl h) e.1
    obtain ⟨h3, h4⟩ := rpA_flat t e.2
    exact ⟨by rw [List.map_cons, ← h1, ← h3], by rw [List.all_cons, h2, h4] <;> rfl⟩
def fIn (neg : Bool) : D → D → (D → Prop) → Prop
  | x, .lst xs, P => x.flat = true ∧ xs.all D.flat = true ∧ P (.bl (if neg then !inV x.fl (xs.map D.fl) else inV x.fl (xs.map D.fl)))
  | x, .tup xs, P => x.flat = true ∧ xs.all D.flat = true ∧ P (.bl (if neg then !inV x.fl (xs.map D.fl) else inV x.fl (xs.map D.fl)))
  | _, _, _ => False
theorem l_in {K : PySem.W.Frag} {neg : Bool} : Lift2 (fIn neg) (rIn K neg) := by
  intro ho N H c x y v u P Q hx hy h k
  cases y <;> simp only [fIn] at h <;> try exact h.elim
  · obtain ⟨a, vs, rfl, _, ea, ra⟩ := rv_lst hy
    obtain ⟨h1, h2⟩ := rv_flat hx h.1
    obtain ⟨h3, h4⟩ := rpA_flat ra h.2.1
    refine ⟨a, vs, rfl, .inl (SqL.of ea), h2, h4, ?_⟩
    rw [h1, h3]
    exact k _ h.2.2 _ H .refl (.bl _)
  · obtain ⟨a, vs, rfl, _, ea, ra⟩ := rv_tup hy
    obtain ⟨h1, h2⟩ := rv_flat hx h.1
    obtain ⟨h3, h4⟩ := rpA_flat ra h.2.1
    refine ⟨a, vs, rfl, .inr ea.sq, h2, h4, ?_⟩
    rw [h1, h3]
    exact k _ h.2.2 _ H .refl (.bl _)
/-! subscripts, slices -/
def fIx : D → D → (D → Prop) → Prop
  | .lst xs, .int i, P => ∃ y, atI xs i = some y ∧ P y
  | .tup xs, .int i, P => ∃ y, atI xs i = some y ∧ P y
  | .str z, .int i, P => z.length ≤ sizeLine ∧ ∃ c, atI z.cps.toList i = some c ∧ P (.str ⟨#[c]⟩)
  | _, _, _ => False
theorem RpA.atI {ho : Ho} {H : Hp} {N : Addr → Prop} {vs : List V} {ds : List D} (r : RpA ho H N vs ds) {i : Int} {d : D} (h : L2.atI ds i = some d) : ∃ v, L2.atI vs i = some v ∧ Rp ho H N v d := by
  unfold L2.atI at h ⊢
  rw [r.length]
  cases e : ixN ds.length i with
  | none => rw [e] at h; cases h
  | some j =>
    rw [e] at h
    exact r.getD h
theorem l_ix {K : PySem.W.Frag} : Lift2 fIx (rIx K) := by
  intro ho N H c x y v u P Q hx hy h k
  cases x <;> cases y <;> simp only [fIx] at h <;> try exact h.elim
  · obtain ⟨h1, c, h2, h3⟩ := h
    exact .inr (.inr ⟨_, _, c, rv_str hx, rv_int hy, h1, h2, k _ h3 _ H .refl (.str _)⟩)
  · obtain ⟨a, vs, rfl, _, ea, ra⟩ := rv_lst hx
    obtain ⟨z, h1, h2⟩ := h
    obtain ⟨v, h3, h4⟩ := ra.atI h1
    exact .inl ⟨a, vs, _, v, rfl, rv_int hy, SqL.of ea, h3, k _ h2 _ H .refl h4⟩
  · obtain ⟨a, vs, rfl, _, ea, ra⟩ := rv_tup hx
    obtain ⟨z, h1, h2⟩ := h
    obtain ⟨v, h3, h4⟩ := ra.atI h1
    exact .inr (.inl ⟨a, vs, _, v, rfl, rv_int hy, ea.sq, h3, k _ h2 _ H .refl h4⟩)
def cutD (xs : List D) (lo hi : Option Int) : List D := (xs.drop (HT.sIx xs.length 0 lo)).take (HT.sIx xs.length xs.length hi - HT.sIx xs.length 0 lo)
theorem RpA.cut {ho : Ho} {H : Hp} {N : Addr → Prop} {vs : List V} {ds : List D} (r : RpA ho H N vs ds) (lo hi : Option Int) : RpA ho H N (cutV vs lo hi) (cutD ds lo hi) := by
  unfold cutV cutD
  rw [r.length]
  exact (r.drop _).take _
abbrev DO := DX → DSt → (Option Int → Prop) → Prop
def dNoPart : DO := fun _ _ P => P none
def dPart (d : DE) : DO := fun er δ P => d er δ fun y => ∃ i, y = .int i ∧ P (some i)
def upO (W : WX) (Ow O : List Nat) (d : DO) : TO := fun σ H Q => ∃ (g : G) (δ : DSt) (P : Option Int → Prop) (er : DX), Rel g O H σ δ ∧ WOk W Ow g σ δ er ∧ d er δ P ∧ ∀ y, P y → ∀ H', Ext g.ho H H' → Q y H'
section
variable {X : Cx} {W : WX} {Ow O : List Nat} {e : Expr} {d : DE} {pos : Pos}
theorem po_weak {e : Option Expr} {t t' : TO} (h : PO X e t) (w : ∀ σ H Q, t' σ H Q → t σ H Q) : PO X e t' := ⟨fun pins s σ H Q I q => h.run pins s σ H Q I (w _ _ _ q)⟩
theorem d_noPart : PO X none (upO W Ow O dNoPart) := po_weak po_none fun σ H Q ⟨g, δ, P, er, r, w, q, k⟩ => k _ q H .refl
theorem d_part (h : PE X e (upE W Ow O d)) : PO X (some e) (upO W Ow O (dPart d)) := po_weak (po_some h) fun σ H Q ⟨g, δ, P, er, r, w, q, k⟩ => ⟨g, δ, _, er, r, w, q, fun y ⟨i, ey, pi⟩ v H' s z => by
  subst ey
  exact ⟨i, rp_int z, k _ pi H' s⟩⟩
def fSl : D → Option Int → Option Int → (D → Prop) → Prop
  | .lst xs, lo, hi, P => P (.lst (cutD xs lo hi))
  | .tup xs, lo, hi, P => P (.tup (cutD xs lo hi))
  | _, _, _, _ => False
def dSl (f : D → Option Int → Option Int → (D → Prop) → Prop) (x : DE) (lo hi : DO) : DE := fun er δ P => x er δ fun y => lo er δ fun l => hi er δ fun h => f y l h P
def rSl2 (K : PySem.W.Frag) : V → Option Int → Option Int → Hp → VK → Prop := fun x lo hi H Q => rSlL K x lo hi H Q ∨ rSlN x lo hi H Q
theorem sl_2 : SlR X (rSl2 X.K) := sl_list.or sl_tupN
theorem cut_whole {xs : List D} {lo hi : Option Int} (h : HT.sIx xs.length 0 lo = 0 ∧ HT.sIx xs.length xs.length hi = xs.length) : cutD xs lo hi = xs := by
  unfold cutD
  rw [h.1, h.2, Nat.sub_zero, List.drop_zero, List.take_length]
variable {lo hi : Option Expr} {dlo dhi : DO} {p2 : Pos}
theorem d_slice (he : PE X e (upV W Ow O d)) (hl : PO X lo (upO W Ow O dlo)) (hh : PO X hi (upO W Ow O dhi)) : PE X (.Subscript e (.Slice lo hi none p2) pos) (upE W Ow O (dSl fSl d dlo dhi)) :=
  pe_weak (pe_slice sl_2 he hl hh) fun σ H Q ⟨g, δ, P, er, r, w, q, k⟩ => ⟨g, δ, _, er, r, w, q, fun y py v H1 s1 z1 => ⟨g, δ, _, er, r.ext s1, w, py, fun l pl H2 s2 => ⟨g, δ, _, er, (r.ext s1).ext s2, w, pl, fun h ph H3 s3 => by
    have s13 := (s1.trans s2).trans s3
    have c := (r.ext s13).hc
    have z3 := (z1.ext s2).ext s3
    cases y <;> simp only [fSl] at ph <;> try exact ph.elim
    · obtain ⟨a, vs, rfl, _, ea, ra⟩ := rv_lst z3
      exact .inl ⟨a, vs, rfl, SqL.of ea, fun p hp => k _ ph _ _ (s13.trans (Ext.new hp)) ((fr_new hp (ra.cut l h)).rp c)⟩
    · obtain ⟨a, vs, rfl, oa, ea, ra⟩ := rv_tup z3
      refine .inr ⟨a, vs, rfl, ea, fun hw => ?_, fun _ p o hp hc hd => k _ ph _ _ (s13.trans (Ext.new hp)) (rp_newT c hp hc hd (ra.cut l h))⟩
      rw [ra.length] at hw
      obtain ⟨o, e1, e2, e3⟩ := ea
      exact k _ ph _ H3 s13 (by rw [cut_whole hw]; exact .tup oa e1 e2 e3 ra)⟩⟩⟩
def fSlL : D → Option Int → Option Int → (D → Prop) → Prop
  | .lst xs, lo, hi, P => P (.lst (cutD xs lo hi))
  | _, _, _, _ => False
theorem f_slice (he : PE X e (upV W Ow O d)) (hl : PO X lo (upO W Ow O dlo)) (hh : PO X hi (upO W Ow O dhi)) : PE X (.Subscript e (.Slice lo hi none p2) pos) (upF W Ow O (dSl fSlL d dlo dhi)) :=
  pe_weak (pe_slice sl_2 he hl hh) fun σ H Q ⟨g, δ, P, er, r, w, q, k⟩ => ⟨g, δ, _, er, r, w, q, fun y py v H1 s1 z1 => ⟨g, δ, _, er, r.ext s1, w, py, fun l pl H2 s2 => ⟨g, δ, _, er, (r.ext s1).ext s2, w, pl, fun h ph H3 s3 => by
    have s13 := (s1.trans s2).trans s3
    have z3 := (z1.ext s2).ext s3
    cases y <;> simp only [fSlL] at ph <;> try exact ph.elim
    obtain ⟨a, vs, rfl, _, ea, ra⟩ := rv_lst z3
    exact .inl ⟨a, vs, rfl, SqL.of ea, fun p hp => k _ ph _ _ (s13.trans (Ext.new hp)) (rF r.hc s13 (fr_new hp (ra.cut l h)))⟩⟩⟩⟩
end
end DL
set_option Elab.async false
set_option linter.all false
set_option maxRecDepth 100000
set_option maxHeartbeats 4000000
namespace DL
open PySem PySem.Spec PyProof.Rows L2 Gen
/-! ### built-ins by data -/
theorem rvA1 {ho : Ho} {H : Hp} {N : Addr → Prop} {vs : List V} {y : D} (h : RvA ho H N vs [y]) : ∃ v, vs = [v] ∧ Rv ho H N v y := by
  cases h with | cons h t => cases t; exact ⟨_, rfl, h⟩
theorem rvA2 {ho : Ho} {H : Hp} {N : Addr → Prop} {vs : List V} {x y : D} (h : RvA ho H N vs [x, y]) : ∃ v w, vs = [v, w] ∧ Rv ho H N v x ∧ Rv ho H N w y := by
  cases h with | cons h t => obtain ⟨w, e, h2⟩ := rvA1 t; subst e; exact ⟨_, _, rfl, h, h2⟩
def fLen : List D → (D → Prop) → Prop
  | [.lst xs], P => P (.int xs.length)
  | [.tup xs], P => P (.int xs.length)
  | [.str z], P => z.length ≤ sizeLine ∧ P (.int z.length)
  | _, _ => False
def rLen (K : PySem.W.Frag) : List V → Hp → VK → Prop := fun xs H Q => (∃ p ys, xs = [V.ref p] ∧ (SqL K H p ys ∨ SqT K H p ys) ∧ Q (.int ys.length) H) ∨ ∃ z, xs = [.str z] ∧ z.length ≤ sizeLine ∧ Q (.int z.length) H
section
variable {X : Cx}
theorem call_len3 : CallR X (.builtin "len") (rLen X.K) := CallR.or call_len_seq call_len_str
end
theorem c_len {K : PySem.W.Frag} : LiftC fLen (rLen K) := by
  intro ho N H c xs vs P Q hx h k
  match xs, h with
  | [.lst ds], h =>
    obtain ⟨v, rfl, r⟩ := rvA1 hx
    obtain ⟨a, ws, rfl, _, ea, ra⟩ := rv_lst r
    exact .inl ⟨a, ws, rfl, .inl (SqL.of ea), by rw [ra.length]; exact k _ h _ H .refl (.int _)⟩
  | [.tup ds], h =>
    obtain ⟨v, rfl, r⟩ := rvA1 hx
    obtain ⟨a, ws, rfl, _, ea, ra⟩ := rv_tup r
    exact .inl ⟨a, ws, rfl, .inr ea.sq, by rw [ra.length]; exact k _ h _ H .refl (.int _)⟩
  | [.str z], h =>
    obtain ⟨v, rfl, r⟩ := rvA1 hx
    exact .inr ⟨z, by rw [rv_str r], h.1, k _ h.2 _ H .refl (.int _)⟩
def fList : List D → (D → Prop) → Prop
  | [.lst xs], P => P (.lst xs)
  | [.tup xs], P => P (.lst xs)
  | _, _ => False
theorem c_list {K : PySem.W.Frag} : LiftFC fList (fun xs H Q => ∃ p ys, xs = [V.ref p] ∧ (SqL K H p ys ∨ SqT K H p ys) ∧ ∀ l, H l = none → Q (.ref l) (upd H l (.lst ys))) := by
  intro ho N H c xs vs P Q hx h k
  match xs, h with
  | [.lst ds], h =>
    obtain ⟨v, rfl, r⟩ := rvA1 hx
    obtain ⟨a, ws, rfl, _, ea, ra⟩ := rv_lst r
    exact ⟨a, ws, rfl, .inl (SqL.of ea), fun l hl => k _ h _ _ (Ext.new hl) (fr_new hl ra)⟩
  | [.tup ds], h =>
    obtain ⟨v, rfl, r⟩ := rvA1 hx
    obtain ⟨a, ws, rfl, _, ea, ra⟩ := rv_tup r
    exact ⟨a, ws, rfl, .inr ea.sq, fun l hl => k _ h _ _ (Ext.new hl) (fr_new hl ra)⟩
def fTuple : List D → (D → Prop) → Prop
  | [.lst xs], P => P (.tup xs)
  | [.tup xs], P => P (.tup xs)
  | _, _ => False
def rTuple (K : PySem.W.Frag) : List V → Hp → VK → Prop := fun xs H Q => (∃ p ys, xs = [V.ref p] ∧ SqL K H p ys ∧ ∀ (l : Addr) (o : Obj), H l = none → o.cls = .type "tuple" → o.dict = none → Q (.ref l) (upd H l (.frz o (.tup ys)))) ∨
  ∃ a ys, xs = [.ref a] ∧ SqT K H a ys ∧ Q (.ref a) H
theorem call_tuple2 {X : Cx} : CallR X (.type "tuple") (rTuple X.K) := CallR.or call_tuple_ofN call_tupleT
theorem c_tuple {K : PySem.W.Frag} : LiftC fTuple (rTuple K) := by
  intro ho N H c xs vs P Q hx h k
  match xs, h with
  | [.lst ds], h =>
    obtain ⟨v, rfl, r⟩ := rvA1 hx
    obtain ⟨a, ws, rfl, _, ea, ra⟩ := rv_lst r
    exact .inl ⟨a, ws, rfl, SqL.of ea, fun l o hl hc hd => k _ h _ _ (Ext.new hl) (rp_newT c hl hc hd ra)⟩
  | [.tup ds], h =>
    obtain ⟨v, rfl, r⟩ := rvA1 hx
    obtain ⟨a, ws, rfl, oa, ea, ra⟩ := rv_tup r
    obtain ⟨o, e1, e2, e3⟩ := id ea
    exact .inr ⟨a, ws, rfl, ea.sq, k _ h _ H .refl (.tup oa e1 e2 e3 ra)⟩
/-! of ints -/
def D.seq : D → Option (List D)
  | .lst xs => some xs
  | .tup xs => some xs
  | _ => none
theorem rv_seq {K : PySem.W.Frag} {ho : Ho} {H : Hp} {N : Addr → Prop} {v : V} {y : D} {ds : List D} (r : Rv ho H N v y) (h : y.seq = some ds) : ∃ a vs, v = .ref a ∧ SqE K H a vs ∧ RpA ho H N vs ds := by
  cases y <;> simp only [D.seq] at h <;> try cases h
  · obtain ⟨a, vs, rfl, _, ea, ra⟩ := rv_lst r
    exact ⟨a, vs, rfl, .inl (SqL.of ea), ra⟩
  · obtain ⟨a, vs, rfl, _, ea, ra⟩ := rv_tup r
    exact ⟨a, vs, rfl, .inr ea.sq, ra⟩
def fSorted : List D → (D → Prop) → Prop
  | [x], P => ∃ ns : List Int, x.seq = some (ns.map D.int) ∧ ∀ ms : List Int, ms.Perm ns → ms.Pairwise (· ≤ ·) → P (.lst (ms.map D.int))
  | _, _ => False
theorem c_sorted {K : PySem.W.Frag} : LiftFC fSorted (rSortedE K) := by
  intro ho N H c xs vs P Q hx h k
  match xs, h with
  | [x], ⟨ns, e, h⟩ =>
    obtain ⟨v, rfl, r⟩ := rvA1 hx
    obtain ⟨a, ws, rfl, ea, ra⟩ := rv_seq (K := K) r e
    have := ra.ints
    subst this
    exact ⟨a, ns, rfl, ea, fun ms p h1 h2 hp => k _ (h ms h1 h2) _ _ (Ext.new hp) (fr_new hp (RpA.ofInts ms))⟩
def fSum : List D → (D → Prop) → Prop
  | [x], P => ∃ ns : List Int, x.seq = some (ns.map D.int) ∧ P (.int ns.sum)
  | _, _ => False
theorem c_sum {K : PySem.W.Frag} : LiftC fSum (rSumE K) := by
  intro ho N H c xs vs P Q hx h k
  match xs, h with
  | [x], ⟨ns, e, h⟩ =>
    obtain ⟨v, rfl, r⟩ := rvA1 hx
    obtain ⟨a, ws, rfl, ea, ra⟩ := rv_seq (K := K) r e
    have := ra.ints
    subst this
    exact ⟨a, ns, rfl, ea, k _ h _ H .refl (.int _)⟩
def fMax2 : List D → (D → Prop) → Prop
  | [.int i, .int j], P => P (.int (if j > i then j else i))
  | _, _ => False
theorem c_max2 : LiftC fMax2 (fun xs H Q => ∃ i j : Int, xs = [V.int i, V.int j] ∧ Q (.int (if j > i then j else i)) H) := by
  intro ho N H c xs vs P Q hx h k
  match xs, h with
  | [.int i, .int j], h =>
    obtain ⟨v, w, rfl, r1, r2⟩ := rvA2 hx
    rw [rv_int r1, rv_int r2]
    exact ⟨i, j, rfl, k _ h _ H .refl (.int _)⟩
def fMin2 : List D → (D → Prop) → Prop
  | [.int i, .int j], P => P (.int (if j < i then j else i))
  | _, _ => False
theorem c_min2 : LiftC fMin2 (fun xs H Q => ∃ i j : Int, xs = [V.int i, V.int j] ∧ Q (.int (if j < i then j else i)) H) := by
  intro ho N H c xs vs P Q hx h k
  match xs, h with
  | [.int i, .int j], h =>
    obtain ⟨v, w, rfl, r1, r2⟩ := rvA2 hx
    rw [rv_int r1, rv_int r2]
    exact ⟨i, j, rfl, k _ h _ H .refl (.int _)⟩
def fMax : List D → (D → Prop) → Prop
  | [.lst xs], P => ∃ ns : List Int, xs = ns.map D.int ∧ 0 < ns.length ∧ ∀ m, m ∈ ns → (∀ y, y ∈ ns → y ≤ m) → P (.int m)
  | _, _ => False
theorem c_max {K : PySem.W.Frag} : LiftC fMax (rMax K) := by
  intro ho N H c xs vs P Q hx h k
  match xs, h with
  | [.lst xs], ⟨ns, e, hl, h⟩ =>
    subst e
    obtain ⟨v, rfl, r⟩ := rvA1 hx
    obtain ⟨a, ws, rfl, _, ea, ra⟩ := rv_lst r
    have := ra.ints
    subst this
    exact ⟨a, ns, rfl, SqL.of ea, hl, fun m h1 h2 => k _ (h m h1 h2) _ H .refl (.int _)⟩
def fMin : List D → (D → Prop) → Prop
  | [.lst xs], P => ∃ ns : List Int, xs = ns.map D.int ∧ 0 < ns.length ∧ ∀ m, m ∈ ns → (∀ y, y ∈ ns → m ≤ y) → P (.int m)
  | _, _ => False
theorem c_min {K : PySem.W.Frag} : LiftC fMin (rMin K) := by
  intro ho N H c xs vs P Q hx h k
  match xs, h with
  | [.lst xs], ⟨ns, e, hl, h⟩ =>
    subst e
    obtain ⟨v, rfl, r⟩ := rvA1 hx
    obtain ⟨a, ws, rfl, _, ea, ra⟩ := rv_lst r
    have := ra.ints
    subst this
    exact ⟨a, ns, rfl, SqL.of ea, hl, fun m h1 h2 => k _ (h m h1 h2) _ H .refl (.int _)⟩
def fAbs : List D → (D → Prop) → Prop
  | [.int i], P => P (.int (if i < 0 then -i else i))
  | _, _ => False
theorem c_abs : LiftC fAbs (fun xs H Q => ∃ i : Int, xs = [V.int i] ∧ Q (.int (if i < 0 then -i else i)) H) := by
  intro ho N H c xs vs P Q hx h k
  match xs, h with
  | [.int i], h =>
    obtain ⟨v, rfl, r1⟩ := rvA1 hx
    rw [rv_int r1]
    exact ⟨i, rfl, k _ h _ H .refl (.int _)⟩
def fInt : List D → (D → Prop) → Prop
  | [.int i], P => P (.int i)
  | _, _ => False
theorem c_int : LiftC fInt (fun xs H Q => (∃ i, xs = [V.int i] ∧ Q (.int i) H) ∨ ∃ k, xs = [V.bl k] ∧ Q (.int (if k then 1 else 0)) H) := by
  intro ho N H c xs vs P Q hx h k
  match xs, h with
  | [.int i], h =>
    obtain ⟨v, rfl, r1⟩ := rvA1 hx
    rw [rv_int r1]
    exact .inl ⟨i, rfl, k _ h _ H .refl (.int _)⟩
def fAll : List D → (D → Prop) → Prop
  | [.lst xs], P => ∃ bs : List Bool, xs = bs.map D.bl ∧ P (.bl (bs.all id))
  | _, _ => False
theorem c_all {K : PySem.W.Frag} : LiftC fAll (rAll K) := by
  intro ho N H c xs vs P Q hx h k
  match xs, h with
  | [.lst xs], ⟨bs, e, h⟩ =>
    subst e
    obtain ⟨v, rfl, r⟩ := rvA1 hx
    obtain ⟨a, ws, rfl, _, ea, ra⟩ := rv_lst r
    have := ra.bls
    subst this
    exact ⟨a, bs, rfl, SqL.of ea, k _ h _ H .refl (.bl _)⟩
def fAny : List D → (D → Prop) → Prop
  | [.lst xs], P => ∃ bs : List Bool, xs = bs.map D.bl ∧ P (.bl (bs.any id))
  | _, _ => False
theorem c_any {K : PySem.W.Frag} : LiftC fAny (rAny K) := by
  intro ho N H c xs vs P Q hx h k
  match xs, h with
  | [.lst xs], ⟨bs, e, h⟩ =>
    subst e
    obtain ⟨v, rfl, r⟩ := rvA1 hx
    obtain ⟨a, ws, rfl, _, ea, ra⟩ := rv_lst r
    have := ra.bls
    subst this
    exact ⟨a, bs, rfl, SqL.of ea, k _ h _ H .refl (.bl _)⟩
/-! isinstance -/
/-- an own class whose instances have a type -/
structure OwnT (K : PySem.W.Frag) (C : Addr) : Prop where
  cl : Cls K C
  ha : PySem.W.findIn K (.ref C) "__class__" = some (some (.builtin "object.__class__"))
  hn : PySem.W.specialIn K (.builtin "object.__class__") "__get__" = some (some (.builtin "getset_descriptor.__get__"))
  ht : PySem.W.takesIn K (.builtin "object.__class__") = some true
  hm : PySem.W.mroIn K C (.type "object") = some true
theorem Own.ownT {K : PySem.W.Frag} {mg : Str → Option Value} {x : Str} {C : Addr} (o : Own K mg x C) : OwnT K C := ⟨o.cl, o.ha, o.hn, o.ht, o.hm⟩
theorem kitOne_ins {K : PySem.W.Frag} {C : Addr} {n : String} {b : Bool} (h : PySem.W.kitMeta n = true) (e : PySem.W.mroIn K C (.type n) = some b) : True := True.intro
/-- what isinstance(x, n) tells of data that is no instance of an own class -/
def D.isT : String → D → Option Bool
  | n, .non => kitB "NoneType" n
  | n, .bl _ => kitB "bool" n
  | n, .int _ => kitB "int" n
  | n, .str _ => kitB "str" n
  | n, .lst _ => kitB "list" n
  | n, .tup _ => kitB "tuple" n
  | n, .dk => kitB "dict" n
  | _, _ => none
theorem ty_of {K : PySem.W.Frag} {ho : Ho} {H : Hp} {N : Addr → Prop} {v : V} {y : D} {n : String} {b : Bool} (r : Rv ho H N v y) (e : y.isT n = some b) : ∃ t, TyX K H v t ∧ PySem.W.kitOne K t (.type n) = some b := by
  cases y <;> simp only [D.isT] at e <;> try cases e
  · rw [rv_non r]; exact ⟨_, .base .non, kit_ty e⟩
  · rw [rv_bl r]; exact ⟨_, .base (.bl _), kit_ty e⟩
  · rw [rv_int r]; exact ⟨_, .base (.int _), kit_ty e⟩
  · rw [rv_str r]; exact ⟨_, .base (.str _), kit_ty e⟩
  · obtain ⟨a, vs, rfl, _, ea, _⟩ := rv_lst r
    exact ⟨_, .base (.lst ea), kit_ty e⟩
  · obtain ⟨a, vs, rfl, _, ⟨o, ea, _⟩, _⟩ := rv_tup r
    exact ⟨_, .fTuple ea, kit_ty e⟩
  · rcases r with r | ⟨_, _, _, _, z, _⟩
    · cases r with | dk of e2 => exact ⟨_, .base (.dK e2), kit_ty e⟩
    · cases z
/-- isinstance(x, n), n one of the built-in types; tb tells the answer by data -/
def fIsi (tb : D → Option Bool) : List D → (D → Prop) → Prop
  | [x, .ty _], P => ∃ b, tb x = some b ∧ P (.bl b)
  | _, _ => False
theorem rv_ty {ho : Ho} {H : Hp} {N : Addr → Prop} {v : V} {n : String} (h : Rv ho H N v (.ty n)) : v = .ty n := by
  rcases h with h | ⟨_, _, _, _, h, _⟩
  · cases h; rfl
  · cases h
def tbInt : D → Option Bool
  | .int _ => some true
  | .bl _ => some true
  | .non => some false
  | .str _ => some false
  | .lst _ => some false
  | .tup _ => some false
  | .dk => some false
  | _ => none
def tbBool : D → Option Bool
  | .int _ => some false
  | .bl _ => some true
  | .non => some false
  | .str _ => some false
  | .lst _ => some false
  | .tup _ => some false
  | .dk => some false
  | _ => none
def tbTuple : D → Option Bool
  | .int _ => some false
  | .bl _ => some false
  | .non => some false
  | .str _ => some false
  | .lst _ => some false
  | .tup _ => some true
  | .dk => some false
  | _ => none
def tbList : D → Option Bool
  | .int _ => some false
  | .bl _ => some false
  | .non => some false
  | .str _ => some false
  | .lst _ => some true
  | .tup _ => some false
  | .dk => some false
  | _ => none
def tbStr : D → Option Bool
  | .int _ => some false
  | .bl _ => some false
  | .non => some false
  | .str _ => some true
  | .lst _ => some false
  | .tup _ => some false
  | .dk => some false
  | _ => none
def fIsiN (n : String) (tb : D → Option Bool) : List D → (D → Prop) → Prop
  | [x, .ty m], P => m = n ∧ ∃ b, tb x = some b ∧ P (.bl b)
  | _, _ => False
theorem c_isi {K : PySem.W.Frag} {n : String} {tb : D → Option Bool} (ht : ∀ x b, tb x = some b → x.isT n = some b) : LiftC (fIsiN n tb) (rIsi K) := by
  intro ho N H c xs vs P Q hx h k
  match xs, h with
  | [x, .ty m], ⟨em, b, e, hh⟩ =>
    obtain ⟨v, w, rfl, r1, r2⟩ := rvA2 hx
    rw [rv_ty r2, em]
    obtain ⟨t, h1, h2⟩ := ty_of (K := K) r1 (ht x b e)
    exact ⟨_, _, t, _, b, rfl, .ty n, h1, h2, k _ hh _ H .refl (.bl _)⟩
theorem c_isiInt {K : PySem.W.Frag} : LiftC (fIsiN "int" tbInt) (rIsi K) := c_isi fun x b e => by cases x <;> simp only [tbInt] at e <;> cases e <;> (simp only [D.isT]; decide +kernel)
theorem c_isiBool {K : PySem.W.Frag} : LiftC (fIsiN "bool" tbBool) (rIsi K) := c_isi fun x b e => by cases x <;> simp only [tbBool] at e <;> cases e <;> (simp only [D.isT]; decide +kernel)
theorem c_isiTuple {K : PySem.W.Frag} : LiftC (fIsiN "tuple" tbTuple) (rIsi K) := c_isi fun x b e => by cases x <;> simp only [tbTuple] at e <;> cases e <;> (simp only [D.isT]; decide +kernel)
theorem c_isiList {K : PySem.W.Frag} : LiftC (fIsiN "list" tbList) (rIsi K) := c_isi fun x b e => by cases x <;> simp only [tbList] at e <;> cases e <;> (simp only [D.isT]; decide +kernel)
theorem c_isiStr {K : PySem.W.Frag} : LiftC (fIsiN "str" tbStr) (rIsi K) := c_isi fun x b e => by cases x <;> simp only [tbStr] at e <;> cases e <;> (simp only [D.isT]; decide +kernel)
/-- isinstance(x, C), C an own class -/
def insIs (C : Addr) : D → Option Bool
  | .ins B _ => if B = C then some true else none
  | .int _ => some false
  | .bl _ => some false
  | .non => some false
  | .str _ => some false
  | .lst _ => some false
  | .tup _ => some false
  | .dk => some false
  | _ => none
def fIsiC (C : Addr) : List D → (D → Prop) → Prop
  | [x, .raw (.ref A)], P => A = C ∧ ∃ b, insIs C x = some b ∧ P (.bl b)
  | _, _ => False
theorem rv_raw {ho : Ho} {H : Hp} {N : Addr → Prop} {v w : V} (h : Rv ho H N v (.raw w)) : v = w := by
  rcases h with h | ⟨_, _, _, _, h, _⟩
  · cases h; rfl
  · cases h
theorem c_isiC {K : PySem.W.Frag} {mg : Str → Option Value} {n : Str} {C : Addr} (o : Own K mg n C) (s1 : ∀ t, t = "NoneType" ∨ t = "bool" ∨ t = "int" ∨ t = "str" ∨ t = "list" ∨ t = "tuple" ∨ t = "dict" → PySem.W.subIn K (.type t) (.ref C) = some false) : LiftC (fIsiC C) (rIsi K) := by
  intro ho N H c xs vs P Q hx h k
  match xs, h with
  | [x, .raw (.ref A)], ⟨h1, b, eb, hh⟩ =>
    obtain ⟨v, w, rfl, r1, r2⟩ := rvA2 hx
    rw [rv_raw r2, h1]
    have no : ∀ {t : String}, b = false → TyX K H v (.type t) → (t = "NoneType" ∨ t = "bool" ∨ t = "int" ∨ t = "str" ∨ t = "list" ∨ t = "tuple" ∨ t = "dict") → rIsi K [v, .ref C] H Q := fun {t} e ty h => by
      subst e
      exact ⟨_, _, _, _, false, rfl, .own _, ty, o.kit_ty (s1 _ h), k _ hh _ H .refl (.bl _)⟩
    cases x <;> simp only [insIs] at eb <;> try cases eb
    · rw [rv_non r1] at no ⊢; exact no rfl (.base .non) (by simp)
    · rw [rv_bl r1] at no ⊢; exact no rfl (.base (.bl _)) (by simp)
    · rw [rv_int r1] at no ⊢; exact no rfl (.base (.int _)) (by simp)
    · rw [rv_str r1] at no ⊢; exact no rfl (.base (.str _)) (by simp)
    · obtain ⟨a, ws, rfl, _, ea, _⟩ := rv_lst r1
      exact no rfl (.base (.lst ea)) (by simp)
    · obtain ⟨a, ws, rfl, _, ⟨_, ea, _⟩, _⟩ := rv_tup r1
      exact no rfl (.fTuple ea) (by simp)
    · obtain ⟨a, dx, fs, rfl, _, ea, _⟩ := rv_ins r1
      split at eb
      · rename_i e
        cases eb
        subst e
        exact ⟨_, _, _, _, true, rfl, .own _, o.ty ea, o.kit_self, k _ hh _ H .refl (.bl _)⟩
      · cases eb
    · rcases r1 with r1 | ⟨_, _, _, _, z, _⟩
      · cases r1 with | dk of e2 => exact no rfl (.base (.dK e2)) (by simp)
      · cases z
/-- isinstance(x, (list, tuple)) -/
def tbSeq : D → Option Bool
  | .int _ => some false
  | .bl _ => some false
  | .non => some false
  | .str _ => some false
  | .lst _ => some true
  | .tup _ => some true
  | .dk => some false
  | _ => none
def dIsSeq (x : DE) : DE := fun er δ P => x er δ fun y => ∃ b, tbSeq y = some b ∧ P (.bl b)
section
variable {X : Cx} {W : WX} {Ow O : List Nat} {e : Expr} {d : DE} {pos : Pos}
theorem d_isSeq {p p1 p2 p3 : Pos} {kx : Nat} (hg : Gl X "isinstance") (hm : X.mg "isinstance" = none) (ha : PE X e (upV W Ow O d)) (h1 : PE X (.Name "list" p1) (tC (.ty "list"))) (h2 : PE X (.Name "tuple" p2) (tC (.ty "tuple")))
    (he : starEach [e, .Tuple [.Name "list" p1, .Name "tuple" p2] kx p3] X.env = (false, eval e X.env) :: starEach [.Tuple [.Name "list" p1, .Name "tuple" p2] kx p3] X.env := by rfl) (hpl : (backTo pos (starEach [.Tuple [.Name "list" p1, .Name "tuple" p2] kx p3] X.env)).any (·.1) = false := by rfl) :
    PE X (.Call (.Name "isinstance" p) [e, .Tuple [.Name "list" p1, .Name "tuple" p2] kx p3] [] pos) (upE W Ow O (dIsSeq d)) :=
  pe_weak (pe_callB call_isiT hg hm (by decide +kernel) (pa_cons ha (pa_cons (pe_tup (pa_cons h1 (pa_cons h2 pa_nil))) pa_nil) he) (by decide) (by decide) he hpl) fun σ H Q ⟨g, δ, P, er, r, w, q, k⟩ => ⟨g, δ, _, er, r, w, q, fun y ⟨b, eb, pb⟩ v H1 s1 z => by
    refine ⟨by decide, fun p hp => ?_⟩
    have s2 : Ext g.ho H1 (upd H1 p (.tup [V.ty "list", V.ty "tuple"])) := Ext.new hp
    have e0 : upd H1 p (.tup [V.ty "list", V.ty "tuple"]) p = some (.tup [V.ty "list", V.ty "tuple"]) := upd_same
    generalize upd H1 p (.tup [V.ty "list", V.ty "tuple"]) = H2 at s2 e0 ⊢
    have z2 := z.ext s2
    have ans : ∀ {t : String}, TyX X.K H2 v (.type t) → kitB t "list" = some true ∧ b = true ∨ kitB t "list" = some false ∧ kitB t "tuple" = some b → rIsiT X.K [v, .ref p] H2 Q := fun {t} ty h => by
      refine ⟨_, _, _, _, _, b, rfl, e0, .cons (.ty _) (.cons (.ty _) .nil), ty, ?_, k _ pb _ H2 (s1.trans s2) (.bl b)⟩
      rcases h with ⟨h, rfl⟩ | ⟨h, h'⟩
      · exact kitAny_cons (b := true) (kit_ty h) (fun z => by cases z) fun _ => rfl
      · refine kitAny_cons (b := false) (kit_ty h) (fun _ => kitAny_cons (b := b) (kit_ty h') (fun z => by rw [z]; exact kitAny_nil) fun z => z) fun z => by cases z
    cases y <;> simp only [tbSeq] at eb <;> cases eb
    · rw [rv_non z2] at ans ⊢; exact ans (.base .non) (.inr ⟨by decide +kernel, by decide +kernel⟩)
    · rw [rv_bl z2] at ans ⊢; exact ans (.base (.bl _)) (.inr ⟨by decide +kernel, by decide +kernel⟩)
    · rw [rv_int z2] at ans ⊢; exact ans (.base (.int _)) (.inr ⟨by decide +kernel, by decide +kernel⟩)
    · rw [rv_str z2] at ans ⊢; exact ans (.base (.str _)) (.inr ⟨by decide +kernel, by decide +kernel⟩)
    · obtain ⟨a, vs, rfl, _, ea, _⟩ := rv_lst z2
      exact ans (.base (.lst ea)) (.inl ⟨by decide +kernel, rfl⟩)
    · obtain ⟨a, vs, rfl, _, ⟨o, ea, _⟩, _⟩ := rv_tup z2
      exact ans (.fTuple ea) (.inr ⟨by decide +kernel, by decide +kernel⟩)
    · rcases z2 with z2 | ⟨_, _, _, _, z, _⟩
      · cases z2 with | dk of e2 => exact ans (.base (.dK e2)) (.inr ⟨by decide +kernel, by decide +kernel⟩)
      · cases z⟩
/-! sorted(set(xs)) -/
def fSortedSet : List D → (D → Prop) → Prop
  | [x], P => ∃ ns : List Int, x.seq = some (ns.map D.int) ∧ ns.length ≤ 1000 ∧ ∀ ms : List Int, ms.Pairwise (· < ·) → (∀ k, k ∈ ms ↔ k ∈ ns) → P (.lst (ms.map D.int))
  | _, _ => False
variable {es : List Expr} {ds : DAr}
theorem f_sortedSet {p p1 pos1 : Pos} (hc : X.calm = true) (hg : Gl X "sorted") (hm : X.mg "sorted" = none) (hg2 : Gl X "set") (hm2 : X.mg "set" = none) (ha : PA X [e] (upAV W Ow O ds))
    (he : starEach [e] X.env = (false, eval e X.env) :: starEach [] X.env := by rfl) (hpl : (backTo pos1 (starEach [] X.env)).any (·.1) = false := by rfl)
    (he2 : starEach [.Call (.Name "set" p1) [e] [] pos1] X.env = (false, eval (.Call (.Name "set" p1) [e] [] pos1) X.env) :: starEach [] X.env := by rfl) (hpl2 : (backTo pos (starEach [] X.env)).any (·.1) = false := by rfl) :
    PE X (.Call (.Name "sorted" p) [.Call (.Name "set" p1) [e] [] pos1] [] pos) (upF W Ow O (dCB fSortedSet ds)) :=
  pe_weak (pe_callB (cr_srtSet hc) hg hm (by decide +kernel) (pa_cons (pe_callTy (cr_setOf hc) hg2 hm2 (by decide +kernel) ha (by decide) (by decide) he hpl) pa_nil he2) (by decide) (by decide) he2 hpl2) fun σ H Q ⟨g, δ, P, er, r, w, q, k⟩ => ⟨g, δ, _, er, r, w, q, fun ys py vs H1 s1 z => by
    match ys, py with
    | [x], ⟨ns, e, hl, h⟩ =>
      obtain ⟨v, ev, zz⟩ := rvA1 z
      obtain ⟨a, ws, ea', ea, ra⟩ := rv_seq (K := X.K) zz e
      rw [ra.ints] at ea
      rw [ev, ea']
      refine ⟨a, ns, rfl, ea, hl, fun p c hp => ⟨p, _, c, rfl, upd_same, fun ms l h1 h2 hl2 => ?_⟩⟩
      have s2 : Ext g.ho H1 (upd H1 p (SetO X.w p (fun j => decide (j ∈ ns)) c)) := Ext.new hp
      exact k _ (h ms h1 (fun j => by rw [h2]; simp)) _ _ ((s1.trans s2).trans (Ext.new hl2)) (rF r.hc (s1.trans s2) (fr_new hl2 (RpA.ofInts ms)))⟩
/-! ### methods that only read -/
def dBM (f : D → List D → (D → Prop) → Prop) (x : DE) (xs : DAr) : DE := fun er δ P => x er δ fun y => (∃ zs, y = .lst zs) ∧ xs er δ fun ys => f y ys P
def dTM (f : D → List D → (D → Prop) → Prop) (x : DE) (xs : DAr) : DE := fun er δ P => x er δ fun y => (∃ zs, y = .tup zs) ∧ xs er δ fun ys => f y ys P
def LiftM (f : D → List D → (D → Prop) → Prop) (r : V → List V → Hp → VK → Prop) : Prop := ∀ ho N H, Hc ho N H → ∀ x xs v vs P Q, Rv ho H N v x → RvA ho H N vs xs → f x xs P → resE ho N H P Q → r v vs H Q
variable {o : Expr} {dx : DE} {name : Str} {apos cpos : Pos} {id : String} {f : D → List D → (D → Prop) → Prop} {rr : V → List V → Hp → VK → Prop}
theorem d_bm (pa : PlainAttrs "list") (slot : Slot "list" name id) (hty : typeOf (.builtin id) = pure (.type "method_descriptor")) (hm : MtR X id rr) (L : LiftM f rr) (ho : PE X o (upV W Ow O dx)) (ha : PA X (e :: es) (upAV W Ow O ds))
    (hbase : attributeBase o name X.env (eval o X.env) = eval o X.env := by rfl)
    (hfew : ((backTo cpos (starEach (e :: es) X.env)).all (fun x => !x.1) && (backToKw cpos (keywordEach [] X.env)).all (fun x => x.1.isSome)
      && decide ((e :: es).length + ([] : List Keyword).length + (if ([] : List Keyword).isEmpty then 0 else 1) < 30)) = true := by rfl)
    (hline : (apos.endLine == cpos.line) = true := by rfl) (hs : starEach (e :: es) X.env = (false, eval e X.env) :: starEach es X.env := by rfl) (hplain : (backTo cpos (starEach es X.env)).any (·.1) = false := by rfl) :
    PE X (.Call (.Attribute o name apos) (e :: es) [] cpos) (upE W Ow O (dBM f dx ds)) :=
  pe_weak (pe_bm pa slot hty hm ho ha hbase hfew hline hs hplain) fun σ H Q ⟨g, δ, P, er, r, w, q, k⟩ => ⟨g, δ, _, er, r, w, q, fun y ⟨⟨zs, ey⟩, py⟩ v H1 s1 z => by
    subst ey
    obtain ⟨a, ws, rfl, oa, ea, ra⟩ := rv_lst z
    exact ⟨.inl ⟨rfl, _, SqL.of ea⟩, g, δ, _, er, r.ext s1, w, py, fun ys py vs H2 s2 z2 => L _ _ _ ((r.ext s1).ext s2).hc _ _ _ _ _ _ (z.ext s2) z2 py fun u pu w' H3 s3 z3 => k u pu w' H3 ((s1.trans s2).trans s3) z3⟩⟩
theorem d_tm (pa : PlainAttrs "tuple") (slot : Slot "tuple" name id) (hty : typeOf (.builtin id) = pure (.type "method_descriptor")) (hm : MtR X id rr) (L : LiftM f rr) (ho : PE X o (upE W Ow O dx)) (ha : PA X (e :: es) (upAV W Ow O ds))
    (hbase : attributeBase o name X.env (eval o X.env) = eval o X.env := by rfl)
    (hfew : ((backTo cpos (starEach (e :: es) X.env)).all (fun x => !x.1) && (backToKw cpos (keywordEach [] X.env)).all (fun x => x.1.isSome)
      && decide ((e :: es).length + ([] : List Keyword).length + (if ([] : List Keyword).isEmpty then 0 else 1) < 30)) = true := by rfl)
    (hline : (apos.endLine == cpos.line) = true := by rfl) (hs : starEach (e :: es) X.env = (false, eval e X.env) :: starEach es X.env := by rfl) (hplain : (backTo cpos (starEach es X.env)).any (·.1) = false := by rfl) :
    PE X (.Call (.Attribute o name apos) (e :: es) [] cpos) (upE W Ow O (dTM f dx ds)) :=
  pe_weak (pe_tm pa slot hty hm ho ha hbase hfew hline hs hplain) fun σ H Q ⟨g, δ, P, er, r, w, q, k⟩ => ⟨g, δ, _, er, r, w, q, fun y ⟨⟨zs, ey⟩, py⟩ v H1 s1 z => by
    subst ey
    obtain ⟨a, ws, rfl, oa, ea, ra⟩ := rp_tup z
    exact ⟨⟨_, _, rfl, ea⟩, g, δ, _, er, r.ext s1, w, py, fun ys py vs H2 s2 z2 => L _ _ _ ((r.ext s1).ext s2).hc _ _ _ _ _ _ (.inl (z.ext s2)) z2 py fun u pu w' H3 s3 z3 => k u pu w' H3 ((s1.trans s2).trans s3) z3⟩⟩
end
def fCountT : D → List D → (D → Prop) → Prop
  | .tup xs, [.int k], P => ∃ ns : List Int, xs = ns.map D.int ∧ P (.int (ns.count k : Nat))
  | _, _, _ => False
def fCountL : D → List D → (D → Prop) → Prop
  | .lst xs, [.int k], P => ∃ ns : List Int, xs = ns.map D.int ∧ P (.int (ns.count k : Nat))
  | _, _, _ => False
theorem m_tcount {K : PySem.W.Frag} : LiftM fCountT (rCntT K) := by
  intro ho N H c x xs v vs P Q hx hxs h k
  match x, xs, h with
  | .tup ds, [.int i], ⟨ns, e, hh⟩ =>
    obtain ⟨u, rfl, r⟩ := rvA1 hxs
    rw [rv_int r]
    obtain ⟨a, ws, rfl, _, ea, ra⟩ := rv_tup hx
    rw [e] at ra
    rw [ra.ints] at ea
    exact ⟨a, ns, _, rfl, rfl, ea.sq, k _ hh _ H .refl (.int _)⟩
theorem m_lcount {K : PySem.W.Frag} : LiftM fCountL (rCntI K) := by
  intro ho N H c x xs v vs P Q hx hxs h k
  match x, xs, h with
  | .lst ds, [.int i], ⟨ns, e, hh⟩ =>
    obtain ⟨u, rfl, r⟩ := rvA1 hxs
    rw [rv_int r]
    obtain ⟨a, ws, rfl, _, ea, ra⟩ := rv_lst hx
    rw [e] at ra
    rw [ra.ints] at ea
    exact ⟨a, ns, _, rfl, rfl, SqL.of ea, k _ hh _ H .refl (.int _)⟩
end DL
set_option Elab.async false
set_option linter.all false
set_option maxRecDepth 100000
set_option maxHeartbeats 4000000
namespace DL
open PySem PySem.Spec PyProof.Rows L2 Gen
/-! ### statements by data -/
structure De where
  nx : DSt → Prop
  rt : D → Prop
  bk : DSt → Prop := fun _ => False
  ct : DSt → Prop := fun _ => False
abbrev DXS := DSt → DX
abbrev DS := De → DXS → DSt → Prop
/-- what is raised is wished for, whatever the slots -/
def WS (W : WX) (Ow : List Nat) (g : G) (er : DXS) : Prop := ∀ δ C fs, er δ C fs → ∀ σ dd H, Rel g Ow H σ δ → XAt g.ho H dd fs → W (.ref C) dd σ H
theorem WS.at {W : WX} {Ow : List Nat} {g : G} {er : DXS} (w : WS W Ow g er) (σ : L2.St) (δ : DSt) : WOk W Ow g σ δ (er δ) := fun C fs h dd H r x => w δ C fs h σ dd H r x
structure upS' (W : WX) (Ow O Oe : List Nat) (d : DS) (E : Ends) (σ : L2.St) (H : Hp) (g : G) (δ : DSt) (p : De) (er : DXS) : Prop where
  rel : Rel g O H σ δ
  ws : WS W Ow g er
  rd : d p er δ
  nx : ∀ δ' σ' H', Rel g Oe H' σ' δ' → p.nx δ' → E.nx σ' H'
  rt : ∀ y v H', Ext g.ho g.H0 H' → Rp g.ho H' g.N v y → p.rt y → E.rt v H'
  bk : ∀ δ' σ' H', Rel g O H' σ' δ' → p.bk δ' → E.bk σ' H'
  ct : ∀ δ' σ' H', Rel g O H' σ' δ' → p.ct δ' → E.ct σ' H'
def upS (W : WX) (Ow O Oe : List Nat) (d : DS) : TS := fun E σ H => ∃ g δ p er, upS' W Ow O Oe d E σ H g δ p er
section
variable {X : Cx} {W : WX} {Ow O Oe O2 : List Nat} {st : Stmt} {rest : List Stmt} {d d' : DS} {e : Expr} {x : DE} {pos : Pos}
/-! blocks -/
def dNx : DS := fun p _ δ => p.nx δ
def dSq (a b : DS) : DS := fun p er δ => a { p with nx := fun δ' => b p er δ' } er δ
theorem s_nil (h : ∀ i, i ∈ Oe → i ∈ O) : PSs X [] (upS W Ow O Oe dNx) := pss_weak pss_nil fun E σ H ⟨g, δ, p, er, u⟩ => u.nx _ _ _ (u.rel.less h) u.rd
theorem s_cons (h1 : PS X st (upS W Ow O O d)) (h2 : PSs X rest (upS W Ow O Oe d')) : PSs X (st :: rest) (upS W Ow O Oe (dSq d d')) := pss_weak (pss_cons h1 h2) fun E σ H ⟨g, δ, p, er, u⟩ =>
  ⟨g, δ, _, er, { rel := u.rel, ws := u.ws, rd := u.rd, nx := fun δ' σ' H' r' q' => ⟨g, δ', p, er, { rel := r', ws := u.ws, rd := q', nx := u.nx, rt := u.rt, bk := u.bk, ct := u.ct }⟩, rt := u.rt, bk := u.bk, ct := u.ct }⟩
theorem s_one (h : PS X st (upS W Ow O O d)) (hO : ∀ i, i ∈ Oe → i ∈ O) : PSs X [st] (upS W Ow O Oe d) := pss_weak (pss_one h) fun E σ H ⟨g, δ, p, er, u⟩ =>
  ⟨g, δ, p, er, { rel := u.rel, ws := u.ws, rd := u.rd, nx := fun δ' σ' H' r' q' => u.nx _ _ _ (r'.less hO) q', rt := u.rt, bk := u.bk, ct := u.ct }⟩
/-- from here on fewer slots own their lists (no loop goes on around it) -/
theorem s_less (hO : ∀ i, i ∈ O2 → i ∈ O) (h : PSs X rest (upS W Ow O2 Oe d)) : PSs X rest (upS W Ow O Oe (fun p er δ => d { nx := p.nx, rt := p.rt } er δ)) := pss_weak h fun E σ H ⟨g, δ, p, er, u⟩ =>
  ⟨g, δ, _, er, { rel := u.rel.less hO, ws := u.ws, rd := u.rd, nx := u.nx, rt := u.rt, bk := fun _ _ _ _ z => z.elim, ct := fun _ _ _ _ z => z.elim }⟩
/-! assignments -/
def dAsg (i : Nat) (x : DE) : DS := fun p er δ => x (er δ) δ fun y => p.nx (δ.set i (some y))
theorem asg_ {i : Nat} (hi : i ∉ O) {E : Ends} {σ : L2.St} {H : Hp} (h : upS W Ow O O (dAsg i x) E σ H) : tAsg (upE W Ow O x) (gName i) E σ H := by
  obtain ⟨g, δ, p, er, u⟩ := h
  exact ⟨g, δ, _, er δ, u.rel, u.ws.at _ _, u.rd, fun y py v H' s z => u.nx _ _ _ ((u.rel.ext s).set hi z) py⟩
theorem asgF_ {i : Nat} (hi : i ∈ O) {E : Ends} {σ : L2.St} {H : Hp} (h : upS W Ow O O (dAsg i x) E σ H) : tAsg (upF W Ow O x) (gName i) E σ H := by
  obtain ⟨g, δ, p, er, u⟩ := h
  refine ⟨g, δ, _, er δ, u.rel, u.ws.at _ _, u.rd, fun y py v H' s z => ?_⟩
  obtain ⟨a, vs, ds, rfl, rfl, h1, h2, h3⟩ := z
  exact u.nx _ _ _ (u.rel.setO hi h1 s h2 h3) py
theorem s_set {i : Nat} {n : Str} {pos' : Pos} (hO : i ∉ O) (hN : X.N.Nodup) (hi : X.N[i]? = some n) (hx : Loc X.env.scope n) (he : PE X e (upE W Ow O x)) (hs : swapsWith e (some (.Name n pos')) pos.line X.env = pure false := by rfl) (hf : X.fn n = true ∨ X.env.scope.names.lookup n = some .local := by first | exact .inl rfl | exact .inr rfl | assumption) :
    PS X (.Assign [.Name n pos'] e pos) (upS W Ow O O (dAsg i x)) := ps_weak (ps_set hN hi hx he hs hf) fun E σ H h => asg_ hO h
theorem s_setF {i : Nat} {n : Str} {pos' : Pos} (hO : i ∈ O) (hN : X.N.Nodup) (hi : X.N[i]? = some n) (hx : Loc X.env.scope n) (he : PE X e (upF W Ow O x)) (hs : swapsWith e (some (.Name n pos')) pos.line X.env = pure false := by rfl) (hf : X.fn n = true ∨ X.env.scope.names.lookup n = some .local := by first | exact .inl rfl | exact .inr rfl | assumption) :
    PS X (.Assign [.Name n pos'] e pos) (upS W Ow O O (dAsg i x)) := ps_weak (ps_set hN hi hx he hs hf) fun E σ H h => asgF_ hO h
/-! e; return e -/
def dExp (x : DE) : DS := fun p er δ => x (er δ) δ fun _ => p.nx δ
def dRet (x : DE) : DS := fun p er δ => x (er δ) δ p.rt
def dRetN : DS := fun p _ _ => p.rt .non
theorem s_exp (he : PE X e (upE W Ow O x)) (hs : swapsWith e none pos.line X.env = pure false := by rfl) : PS X (.Expr e pos) (upS W Ow O O (dExp x)) := ps_weak (ps_expr he hs) fun E σ H ⟨g, δ, p, er, u⟩ =>
  ⟨g, δ, _, er δ, u.rel, u.ws.at _ _, u.rd, fun y py v H' s z => u.nx _ _ _ (u.rel.ext s) py⟩
theorem s_ret (h2 : ∀ i, i ∈ O2 → i ∈ O) (he : PE X e (upE W Ow O2 x)) : PS X (.Return (some e) pos) (upS W Ow O O (dRet x)) := ps_weak (ps_ret he) fun E σ H ⟨g, δ, p, er, u⟩ =>
  ⟨g, δ, _, er δ, u.rel.less h2, u.ws.at _ _, u.rd, fun y py v H' s z => u.rt _ _ _ (u.rel.base.trans s) (z.mono (fun _ _ e _ => e) fun _ _ _ z => .inl z) py⟩
theorem s_retN : PS X (.Return none pos) (upS W Ow O O dRetN) := ps_weak ps_retN fun E σ H ⟨g, δ, p, er, u⟩ => u.rt _ _ _ u.rel.base .non u.rd
/-! if, pass, break, continue -/
def dIfS (t : DT) (a b : DS) : DS := fun p er δ => t (er δ) δ fun c => if c = true then a p er δ else b p er δ
variable {t : DT} {c : Expr} {sa sb : List Stmt} {da db : DS}
theorem s_if (hc : PT X c (upT W Ow O t)) (ha : PSs X sa (upS W Ow O O da)) (hb : PSs X sb (upS W Ow O O db)) : PS X (.If c sa sb pos) (upS W Ow O O (dIfS t da db)) := ps_weak (ps_if hc ha hb) fun E σ H ⟨g, δ, p, er, u⟩ =>
  ⟨g, δ, _, er δ, u.rel, u.ws.at _ _, u.rd, fun c pc H' s => by
    cases c with
    | true =>
      rw [if_pos rfl] at pc ⊢
      exact ⟨g, δ, p, er, { rel := u.rel.ext s, ws := u.ws, rd := pc, nx := u.nx, rt := u.rt, bk := u.bk, ct := u.ct }⟩
    | false =>
      rw [if_neg (fun z => by cases z)] at pc ⊢
      exact ⟨g, δ, p, er, { rel := u.rel.ext s, ws := u.ws, rd := pc, nx := u.nx, rt := u.rt, bk := u.bk, ct := u.ct }⟩⟩
def dBk : DS := fun p _ δ => p.bk δ
def dCt : DS := fun p _ δ => p.ct δ
theorem s_pass : PS X (.Pass pos) (upS W Ow O O dNx) := ps_weak ps_pass fun E σ H ⟨g, δ, p, er, u⟩ => u.nx _ _ _ u.rel u.rd
theorem s_break : PS X (.Break pos) (upS W Ow O O dBk) := ps_weak ps_break fun E σ H ⟨g, δ, p, er, u⟩ => u.bk _ _ _ u.rel u.rd
theorem s_cont : PS X (.Continue pos) (upS W Ow O O dCt) := ps_weak ps_continue fun E σ H ⟨g, δ, p, er, u⟩ => u.ct _ _ _ u.rel u.rd
/-! what owned lists do -/
theorem own_get {g : G} {σ : L2.St} {δ : DSt} {H : Hp} {i : Nat} {ds : List D} (r : Rel g O H σ δ) (hi : i ∈ O) (e : δ[i]? = some (some (.lst ds))) : ∃ a vs, σ[i]? = some (some (.ref a)) ∧ H a = some (.lst vs) ∧ off g.ho a ∧ RpA g.ho H (NM g O σ δ) vs ds := by
  obtain ⟨a, vs, es, h1, h2, h3, _, h5, h6⟩ := r.own i _ hi e
  cases h1
  exact ⟨a, vs, h2, h5, h3, h6⟩
def dAppend (i : Nat) (x : DE) : DS := fun p er δ => ∃ ds, δ[i]? = some (some (.lst ds)) ∧ x (er δ) δ fun y => ds.length < sizeLine ∧ p.nx (δ.set i (some (.lst (ds ++ [y]))))
variable {o : Expr} {apos cpos : Pos}
theorem s_append {i : Nat} (hi : i ∈ O) (ho : PE X o (tVar i)) (he : PE X e (upE W Ow O x))
    (hbase : attributeBase o "append" X.env (eval o X.env) = eval o X.env := by rfl)
    (hfew : ((backTo cpos (starEach [e] X.env)).all (fun x => !x.1) && (backToKw cpos (keywordEach [] X.env)).all (fun x => x.1.isSome)
      && decide ([e].length + ([] : List Keyword).length + (if ([] : List Keyword).isEmpty then 0 else 1) < 30)) = true := by rfl)
    (hline : (apos.endLine == cpos.line) = true := by rfl) (hs : starEach [e] X.env = (false, eval e X.env) :: starEach [] X.env := by rfl) (hplain : (backTo cpos (starEach [] X.env)).any (·.1) = false := by rfl)
    (hsw : swapsWith (.Call (.Attribute o "append" apos) [e] [] cpos) none pos.line X.env = pure false := by rfl) :
    PS X (.Expr (.Call (.Attribute o "append" apos) [e] [] cpos) pos) (upS W Ow O O (dAppend i x)) :=
  ps_weak (ps_expr (pe_bm PySem.F.plainAttrs_list PySem.F.slot_list_append PySem.F.type_list_append mt_append ho (pa_cons he pa_nil hs) hbase hfew hline hs hplain) hsw) fun E σ H ⟨g, δ, p, er, u⟩ => by
    obtain ⟨ds, ei, q⟩ := u.rd
    obtain ⟨a, vs, h2, h5, h3, h6⟩ := own_get u.rel hi ei
    refine ⟨_, h2, .inl ⟨rfl, _, SqL.of h5⟩, g, δ, _, er δ, u.rel, u.ws.at _ _, q, fun y ⟨py, pn⟩ v H' s z => ?_⟩
    have r' := u.rel.ext s
    obtain ⟨b, ws, k2, k5, k3, k6⟩ := own_get r' hi ei
    rw [h2] at k2
    cases k2
    exact ⟨a, ws, v, rfl, rfl, k5, by rw [k6.length]; exact py, u.nx _ _ _ (r'.write hi ei h2 (k6.append (.cons z .nil))) pn⟩
/-- xs.insert(k, y) -/
def dInsert (i : Nat) (xs : DAr) : DS := fun p er δ => ∃ ds, δ[i]? = some (some (.lst ds)) ∧ xs (er δ) δ fun ys => ∃ k y, ys = [.int k, y] ∧ (ds.length < sizeLine ∧ 0 ≤ k ∧ k < 9223372036854775808) ∧ p.nx (δ.set i (some (.lst (ds.take k.toNat ++ [y] ++ ds.drop k.toNat))))
variable {es : List Expr} {xs : DAr}
theorem s_insert {i : Nat} (hi : i ∈ O) (ho : PE X o (tVar i)) (he : PA X (e :: es) (upA W Ow O xs))
    (hbase : attributeBase o "insert" X.env (eval o X.env) = eval o X.env := by rfl)
    (hfew : ((backTo cpos (starEach (e :: es) X.env)).all (fun x => !x.1) && (backToKw cpos (keywordEach [] X.env)).all (fun x => x.1.isSome)
      && decide ((e :: es).length + ([] : List Keyword).length + (if ([] : List Keyword).isEmpty then 0 else 1) < 30)) = true := by rfl)
    (hline : (apos.endLine == cpos.line) = true := by rfl) (hs : starEach (e :: es) X.env = (false, eval e X.env) :: starEach es X.env := by rfl) (hplain : (backTo cpos (starEach es X.env)).any (·.1) = false := by rfl)
    (hsw : swapsWith (.Call (.Attribute o "insert" apos) (e :: es) [] cpos) none pos.line X.env = pure false := by rfl) :
    PS X (.Expr (.Call (.Attribute o "insert" apos) (e :: es) [] cpos) pos) (upS W Ow O O (dInsert i xs)) :=
  ps_weak (ps_expr (pe_bm PySem.F.plainAttrs_list PySem.F.slot_list_insert PySem.F.type_list_insert mt_insert ho he hbase hfew hline hs hplain) hsw) fun E σ H ⟨g, δ, p, er, u⟩ => by
    obtain ⟨ds, ei, q⟩ := u.rd
    obtain ⟨a, vs, h2, h5, h3, h6⟩ := own_get u.rel hi ei
    refine ⟨_, h2, .inl ⟨rfl, _, SqL.of h5⟩, g, δ, _, er δ, u.rel, u.ws.at _ _, q, fun ys ⟨k, y, ey, ⟨p1, p2, p3⟩, pn⟩ vs H' s z => ?_⟩
    subst ey
    cases z with | cons z1 z2 =>
    cases z2 with | cons z2 z3 =>
    cases z3
    rw [rp_int z1]
    have r' := u.rel.ext s
    obtain ⟨b, ws, k2, k5, k3, k6⟩ := own_get r' hi ei
    rw [h2] at k2
    cases k2
    have e63 : (2 : Int) ^ 63 = 9223372036854775808 := by decide
    exact ⟨a, ws, k, _, rfl, rfl, k5, by rw [k6.length]; exact p1, p2, by rw [e63]; exact p3, u.nx _ _ _ (r'.write hi ei h2 (((k6.take _).append (.cons z2 .nil)).append (k6.drop _))) pn⟩
/-- xs.remove(k), all of it ints -/
def dRemove (i : Nat) (x : DE) : DS := fun p er δ => ∃ ns : List Int, δ[i]? = some (some (.lst (ns.map D.int))) ∧ x (er δ) δ fun y => ∃ k, y = .int k ∧ k ∈ ns ∧ p.nx (δ.set i (some (.lst ((ns.erase k).map D.int))))
theorem erase_at {k : Int} : ∀ {ns : List Int}, k ∈ ns → ∃ j : Nat, ns[j]? = some k ∧ (∀ m : Nat, m < j → ns[m]? ≠ some k) ∧ ns.eraseIdx j = ns.erase k
  | [], h => absurd h List.not_mem_nil
  | n :: ns, h => by
    by_cases e : n = k
    · subst e
      exact ⟨0, rfl, fun m hm => absurd hm (Nat.not_lt_zero m), by simp⟩
    · have h2 : k ∈ ns := by
        rcases List.mem_cons.mp h with h | h
        · exact absurd h.symm e
        · exact h
      obtain ⟨j, h3, h4, h5⟩ := erase_at h2
      refine ⟨j + 1, h3, fun m hm => ?_, ?_⟩
      · cases m with
        | zero => exact fun z => e (by injection z)
        | succ m => exact h4 m (by omega)
      · rw [List.eraseIdx_cons_succ, h5, List.erase_cons_tail (by simpa using e)]
theorem s_remove {i : Nat} (hi : i ∈ O) (ho : PE X o (tVar i)) (he : PE X e (upE W Ow O x))
    (hbase : attributeBase o "remove" X.env (eval o X.env) = eval o X.env := by rfl)
    (hfew : ((backTo cpos (starEach [e] X.env)).all (fun x => !x.1) && (backToKw cpos (keywordEach [] X.env)).all (fun x => x.1.isSome)
      && decide ([e].length + ([] : List Keyword).length + (if ([] : List Keyword).isEmpty then 0 else 1) < 30)) = true := by rfl)
    (hline : (apos.endLine == cpos.line) = true := by rfl) (hs : starEach [e] X.env = (false, eval e X.env) :: starEach [] X.env := by rfl) (hplain : (backTo cpos (starEach [] X.env)).any (·.1) = false := by rfl)
    (hsw : swapsWith (.Call (.Attribute o "remove" apos) [e] [] cpos) none pos.line X.env = pure false := by rfl) :
    PS X (.Expr (.Call (.Attribute o "remove" apos) [e] [] cpos) pos) (upS W Ow O O (dRemove i x)) :=
  ps_weak (ps_expr (pe_bm PySem.F.plainAttrs_list PySem.F.slot_list_remove PySem.F.type_list_remove mt_remove ho (pa_cons he pa_nil hs) hbase hfew hline hs hplain) hsw) fun E σ H ⟨g, δ, p, er, u⟩ => by
    obtain ⟨ns, ei, q⟩ := u.rd
    obtain ⟨a, vs, h2, h5, h3, h6⟩ := own_get u.rel hi ei
    refine ⟨_, h2, .inl ⟨rfl, _, SqL.of h5⟩, g, δ, _, er δ, u.rel, u.ws.at _ _, q, fun y ⟨k, ey, hk, pn⟩ v H' s z => ?_⟩
    subst ey
    rw [rp_int z]
    have r' := u.rel.ext s
    obtain ⟨b, ws, k2, k5, k3, k6⟩ := own_get r' hi ei
    rw [h2] at k2
    cases k2
    rw [k6.ints] at k5
    obtain ⟨j, j1, j2, j3⟩ := erase_at hk
    exact ⟨a, ns, k, j, rfl, rfl, k5, j1, j2, u.nx _ _ _ (by rw [j3]; exact r'.write hi ei h2 (RpA.ofInts _)) pn⟩
/-- xs.pop(k) as a statement -/
def dPopAt (i : Nat) (x : DE) : DS := fun p er δ => ∃ ds, δ[i]? = some (some (.lst ds)) ∧ x (er δ) δ fun y => ∃ k, y = .int k ∧ 0 ≤ k ∧ k < ds.length ∧ ds.length < 9223372036854775808 ∧ p.nx (δ.set i (some (.lst (ds.eraseIdx k.toNat))))
theorem s_popAt {i : Nat} (hi : i ∈ O) (ho : PE X o (tVar i)) (he : PE X e (upE W Ow O x))
    (hbase : attributeBase o "pop" X.env (eval o X.env) = eval o X.env := by rfl)
    (hfew : ((backTo cpos (starEach [e] X.env)).all (fun x => !x.1) && (backToKw cpos (keywordEach [] X.env)).all (fun x => x.1.isSome)
      && decide ([e].length + ([] : List Keyword).length + (if ([] : List Keyword).isEmpty then 0 else 1) < 30)) = true := by rfl)
    (hline : (apos.endLine == cpos.line) = true := by rfl) (hs : starEach [e] X.env = (false, eval e X.env) :: starEach [] X.env := by rfl) (hplain : (backTo cpos (starEach [] X.env)).any (·.1) = false := by rfl)
    (hsw : swapsWith (.Call (.Attribute o "pop" apos) [e] [] cpos) none pos.line X.env = pure false := by rfl) :
    PS X (.Expr (.Call (.Attribute o "pop" apos) [e] [] cpos) pos) (upS W Ow O O (dPopAt i x)) :=
  ps_weak (ps_expr (pe_bm PySem.F.plainAttrs_list PySem.F.slot_list_pop PySem.F.type_list_pop mt_popAt ho (pa_cons he pa_nil hs) hbase hfew hline hs hplain) hsw) fun E σ H ⟨g, δ, p, er, u⟩ => by
    obtain ⟨ds, ei, q⟩ := u.rd
    obtain ⟨a, vs, h2, h5, h3, h6⟩ := own_get u.rel hi ei
    refine ⟨_, h2, .inl ⟨rfl, _, SqL.of h5⟩, g, δ, _, er δ, u.rel, u.ws.at _ _, q, fun y ⟨k, ey, hk0, hk1, hl, pn⟩ v H' s z => ?_⟩
    subst ey
    rw [rp_int z]
    have r' := u.rel.ext s
    obtain ⟨b, ws, k2, k5, k3, k6⟩ := own_get r' hi ei
    rw [h2] at k2
    cases k2
    have lw := k6.length
    have e63 : (2 : Int) ^ 63 = 9223372036854775808 := by decide
    have kl : k.toNat < ws.length := by omega
    refine ⟨a, ws, k, k.toNat, ws[k.toNat], rfl, rfl, k5, by rw [e63]; omega, by rw [e63]; omega, ?_, List.getElem?_eq_getElem kl, u.nx _ _ _ (r'.write hi ei h2 (k6.eraseIdx _)) pn⟩
    unfold seqIndex?
    simp only []
    rw [if_neg (by omega : ¬ k < 0)]
    have kw : k < (ws.length : Int) := by omega
    simp [hk0, kw]
/-- xs[k] = y -/
def dSetAt (i : Nat) (xk xv : DE) : DS := fun p er δ => xv (er δ) δ fun y => ∃ ds, δ[i]? = some (some (.lst ds)) ∧ xk (er δ) δ fun z => ∃ k j, z = .int k ∧ ixN ds.length k = some j ∧ p.nx (δ.set i (some (.lst (ds.set j y))))
theorem s_setAt {i : Nat} {ek : Expr} {xk xv : DE} {spos : Pos} (hi : i ∈ O) (ho : PE X o (tVar i)) (hk : PE X ek (upE W Ow O xk)) (hv : PE X e (upE W Ow O xv))
    (ha : ∀ v, assign (.Subscript o ek spos) X.env v = (do
      let ov ← holding [v] (eval o X.env)
      let iv ← holding [v, ov] (eval ek X.env)
      standAt spos
      holding [v, ov, iv] (setItem ov iv v)
      release [v, ov, iv] []) := by intro _; rfl)
    (hs : swapsWithSole [.Subscript o ek spos] e pos.line X.env = pure false := by rfl) (hw : swappedStores [.Subscript o ek spos] e X.env = pure none := by rfl)
    (h1 : (assignEach [.Subscript o ek spos] X.env).map (·.2) = [assign (.Subscript o ek spos) X.env] := by rfl) :
    PS X (.Assign [.Subscript o ek spos] e pos) (upS W Ow O O (dSetAt i xk xv)) :=
  ps_weak (ps_asg hv (pg_sub ho hk set_list ha) hs hw h1) fun E σ H ⟨g, δ, p, er, u⟩ => by
    refine ⟨g, δ, _, er δ, u.rel, u.ws.at _ _, u.rd, fun y ⟨ds, ei, q⟩ v H1 s1 z1 => ?_⟩
    have r1 := u.rel.ext s1
    obtain ⟨a, vs, h2, h5, h3, h6⟩ := own_get r1 hi ei
    refine ⟨_, h2, g, δ, _, er δ, r1, u.ws.at _ _, q, fun z ⟨k, j, ez, hj, pn⟩ w H2 s2 z2 => ?_⟩
    subst ez
    rw [rp_int z2]
    have r2 := r1.ext s2
    obtain ⟨b, ws, k2, k5, k3, k6⟩ := own_get r2 hi ei
    rw [h2] at k2
    cases k2
    exact ⟨a, ws, k, j, rfl, rfl, k5, by rw [k6.length]; exact hj, u.nx _ _ _ (r2.write hi ei h2 (k6.set (z1.ext s2) j)) pn⟩
end
end DL
set_option Elab.async false
set_option linter.all false
set_option maxRecDepth 100000
set_option maxHeartbeats 4000000
namespace DL
open PySem PySem.Spec PyProof.Rows L2 Gen
/-! ### targets -/
abbrev DG := D → DSt → (DSt → Prop) → Prop
abbrev DGs := List D → DSt → (DSt → Prop) → Prop
/-- an item: data, or a pair just laid -/
def Rt (ho : Ho) (H : Hp) (N : Addr → Prop) (v : V) (x : D) : Prop := Rp ho H N v x ∨ ∃ (ys : List D) (T : Addr) (vs : List V), x = .tup ys ∧ v = .ref T ∧ (∀ K, SqT K H T vs) ∧ RpA ho H N vs ys
def gN (i : Nat) : DG := fun x δ Q => Q (δ.set i (some x))
def gT (n : Nat) (t : DGs) : DG := fun x δ Q => ∃ ys, x = .tup ys ∧ ys.length = n ∧ t ys δ Q
def gT0 : DGs := fun xs δ Q => xs = [] ∧ Q δ
def gTC (t : DG) (u : DGs) : DGs := fun xs δ Q => ∃ y r, xs = y :: r ∧ t y δ fun δ' => u r δ' Q
theorem wipe_set {σ : L2.St} {i : Nat} {x : Option V} : ∀ {vs : List Nat}, i ∈ vs → wipe (σ.set i x) vs = wipe σ vs
  | [], h => absurd h List.not_mem_nil
  | j :: vs, h => by
    by_cases e : i ∈ vs
    · unfold wipe
      rw [wipe_set e]
    · have ej : i = j := by
        rcases List.mem_cons.mp h with h | h
        · exact h
        · exact absurd h e
      subst ej
      have com : ∀ {us : List Nat}, i ∉ us → wipe (σ.set i x) us = (wipe σ us).set i x := by
        intro us
        induction us with
        | nil => intro _; rfl
        | cons u us ih =>
          intro n
          have n1 : i ≠ u := fun z => n (z ▸ List.mem_cons_self)
          unfold wipe
          rw [ih fun z => n (List.mem_cons_of_mem _ z), List.set_comm _ _ n1]
      unfold wipe
      rw [com e, List.set_set]
def LG (O vs : List Nat) (R : Ho → Hp → (Addr → Prop) → V → D → Prop) (t : TG) (g : DG) : Prop := ∀ (g0 : G) (H : Hp) (σ : L2.St) (δ : DSt) (v : V) (x : D) (Q' : DSt → Prop) (Q : L2.St → Hp → Prop), Rel g0 O H σ δ → R g0.ho H (NM g0 O σ δ) v x → g x δ Q' →
  (∀ δ' σ', Rel g0 O H σ' δ' → (∀ a, NM g0 O σ' δ' a ↔ NM g0 O σ δ a) → wipe σ' vs = wipe σ vs → Q' δ' → Q σ' H) → t v σ H Q
def LGs (O vs : List Nat) (t : TGs) (g : DGs) : Prop := ∀ (g0 : G) (H : Hp) (σ : L2.St) (δ : DSt) (us : List V) (xs : List D) (Q' : DSt → Prop) (Q : L2.St → Hp → Prop), Rel g0 O H σ δ → RpA g0.ho H (NM g0 O σ δ) us xs → g xs δ Q' →
  (∀ δ' σ', Rel g0 O H σ' δ' → (∀ a, NM g0 O σ' δ' a ↔ NM g0 O σ δ a) → wipe σ' vs = wipe σ vs → Q' δ' → Q σ' H) → t us σ H Q
section
variable {O vs : List Nat}
theorem lg_name {i : Nat} (hi : i ∉ O) (hv : i ∈ vs) : LG O vs Rp (gName i) (gN i) := by
  intro g0 H σ δ v x Q' Q r rv h k
  refine k _ _ (r.set hi rv) (fun a => ⟨fun z => z.imp id (Mo.set_free hi), fun z => z.imp id fun ⟨j, d, hj, h1, h2⟩ => ?_⟩) (wipe_set hv) h
  have n : i ≠ j := fun z => hi (z ▸ hj)
  exact ⟨j, d, hj, by rwa [set_off n], by rwa [set_off n]⟩
theorem lgs_nil : LGs O vs gNil gT0 := by
  intro g0 H σ δ us xs Q' Q r rv h k
  obtain ⟨e, h⟩ := h
  subst e
  cases rv
  exact ⟨rfl, k _ _ r (fun _ => Iff.rfl) rfl h⟩
theorem lgs_cons {t : TG} {g : DG} {u : TGs} {gs : DGs} (h1 : LG O vs Rp t g) (h2 : LGs O vs u gs) : LGs O vs (gCons t u) (gTC g gs) := by
  intro g0 H σ δ us xs Q' Q r rv h k
  obtain ⟨y, rr, e, h⟩ := h
  subst e
  cases rv with | cons z1 z2 =>
  refine ⟨_, _, rfl, h1 g0 H σ δ _ _ _ _ r z1 h fun δ' σ' r' sub w q => ?_⟩
  exact h2 g0 H σ' δ' _ _ _ _ r' (z2.mono (fun _ _ e _ => e) fun a _ _ z => (sub a).mp z) q fun δ2 σ2 r2 sub2 w2 q2 => k _ _ r2 (fun a => (sub2 a).trans (sub a)) (w2.trans w) q2
theorem lg_tup {K : PySem.W.Frag} {n : Nat} {u : TGs} {gs : DGs} (h : LGs O vs u gs) : LG O vs Rt (gTup K n u) (gT n gs) := by
  intro g0 H σ δ v x Q' Q r rv hh k
  obtain ⟨ys, e, hl, hq⟩ := hh
  subst e
  rcases rv with rv | ⟨zs, T, us, e, rfl, sq, ra⟩
  · obtain ⟨a, us, rfl, _, ea, ra⟩ := rp_tup rv
    exact ⟨a, us, rfl, ea.sq, by rw [ra.length]; exact hl, h g0 H σ δ _ _ _ _ r ra hq k⟩
  · cases e
    exact ⟨T, us, rfl, sq K, by rw [ra.length]; exact hl, h g0 H σ δ _ _ _ _ r ra hq k⟩
theorem LG.rp {t : TG} {g : DG} (h : LG O vs Rt t g) : LG O vs Rp t g := fun g0 H σ δ v x Q' Q r rv => h g0 H σ δ v x Q' Q r (.inl rv)
end
/-! ### what is walked -/
/-- J gives just these items, as long as the heap Hb stands -/
def Yields (R : Ho → Hp → (Addr → Prop) → V → D → Prop) (J : It) (ho : Ho) (N : Addr → Prop) (Hb : Hp) (xs : List D) : Prop := ∀ H', Ext ho Hb H' → ∀ i, (∀ x, xs[i]? = some x → J.go i H' ∧ ∀ v H2, J.yld i H' v H2 → Ext ho H' H2 ∧
  ∀ N' : Addr → Prop, (∀ a zs, Hb a = some (.lst zs) → N' a → N a) → R ho H2 N' v x) ∧ (xs[i]? = none → J.stop i H')
open Classical in
noncomputable def dropM (M : Addr → Prop) (H : Hp) : Hp := fun a => if M a then none else H a
theorem dropM_in {M : Addr → Prop} {H : Hp} {a : Addr} (h : M a) : dropM M H a = none := if_pos h
theorem dropM_out {M : Addr → Prop} {H : Hp} {a : Addr} (h : ¬ M a) : dropM M H a = H a := if_neg h
theorem dropM_some {M : Addr → Prop} {H : Hp} {a : Addr} {o : HO} (h : dropM M H a = some o) : ¬ M a ∧ H a = some o := by
  by_cases m : M a
  · rw [dropM_in m] at h; cases h
  · rw [dropM_out m] at h; exact ⟨m, h⟩
/-- the lists of N left out -/
noncomputable abbrev dropL (N : Addr → Prop) (H : Hp) : Hp := dropM (fun a => N a ∧ ∃ vs, H a = some (.lst vs)) H
theorem dropL_ext {ho : Ho} {H H' : Hp} {N M : Addr → Prop} (hM : ∀ a, M a → N a ∧ ∃ vs, H a = some (.lst vs)) (s : Ext ho (dropM M H) H') (hand : ∀ h q, ho = some (h, q) → HandAt H' h q) : Ext ho (dropL N H) H' :=
  ⟨fun a o e n => s.keep a o (by obtain ⟨h1, h2⟩ := dropM_some e; rw [dropM_out (fun z => h1 (hM a z))]; exact h2) n, fun h q e _ => hand h q e⟩
/-- what the slots own is no tuple, no instance, no dict -/
theorem Rel.moL {g : G} {O : List Nat} {H : Hp} {σ : L2.St} {δ : DSt} (r : Rel g O H σ δ) {a : Addr} (m : Mo O σ δ a) : ∃ vs, H a = some (.lst vs) := by
  obtain ⟨i, d, hi, h1, h2⟩ := m
  obtain ⟨b, vs, _, _, h3, _, _, h6, _⟩ := r.own i d hi h2
  rw [h3] at h1
  cases h1
  exact ⟨vs, h6⟩
theorem Rp.dropE {ho : Ho} {H : Hp} {N M : Addr → Prop} (hM : ∀ a, M a → ∃ vs, H a = some (.lst vs)) (nM : ∀ a, M a → N a) {v : V} {d : D} (r : Rp ho H N v d) : Rp ho (dropM M H) N v d := by
  refine Rp.rec (motive_1 := fun v d _ => Rp ho (dropM M H) N v d) (motive_2 := fun v d _ => RpA ho (dropM M H) N v d) (motive_3 := fun v d _ => RpF ho (dropM M H) N v d) ?_ ?_ ?_ ?_ ?_ ?_ ?_ ?_ ?_ ?_ ?_ ?_ ?_ ?_ ?_ ?_ r
  · exact .non
  · exact .bl
  · exact .int
  · exact .str
  · exact .ty
  · intro b ws es2 nN of eb _ ih
    exact .lst nN of (by rw [dropM_out (fun z => nN (nM _ z))]; exact eb) ih
  · intro b ws es2 o of eb hc hd _ ih
    exact .tup of (by rw [dropM_out (fun z => by obtain ⟨_, e⟩ := hM _ z; rw [eb] at e; cases e)]; exact eb) hc hd ih
  · intro b C dx fs gs of eb _ ih
    exact .ins of (by rw [dropM_out (fun z => by obtain ⟨_, e⟩ := hM _ z; rw [eb] at e; cases e)]; exact eb) ih
  · intro h q eh
    exact .hand eh
  · intro b kvs of eb
    exact .dk of (by rw [dropM_out (fun z => by obtain ⟨_, e⟩ := hM _ z; rw [eb] at e; cases e)]; exact eb)
  · exact .raw
  · intro b C dd cls ws fs ec of eb _ ih
    exact .exc ec of (by rw [dropM_out (fun z => by obtain ⟨_, e⟩ := hM _ z; rw [eb] at e; cases e)]; exact eb) ih
  · exact .nil
  · intro v d vs ds _ _ h1 h2
    exact .cons h1 h2
  · exact .nil
  · intro x v d vs ds _ _ h1 h2
    exact .cons h1 h2
theorem RpA.dropE {ho : Ho} {H : Hp} {N M : Addr → Prop} (hM : ∀ a, M a → ∃ vs, H a = some (.lst vs)) (nM : ∀ a, M a → N a) : ∀ {vs : List V} {ds : List D}, RpA ho H N vs ds → RpA ho (dropM M H) N vs ds
  | _, _, .nil => .nil
  | _, _, .cons h t => .cons (h.dropE hM nM) (RpA.dropE hM nM t)
theorem ext_drop {ho : Ho} {H : Hp} {M : Addr → Prop} (hand : ∀ h q, ho = some (h, q) → HandAt H h q) : Ext ho (dropM M H) H := ⟨fun a o e _ => (dropM_some e).2, fun h q e _ => hand h q e⟩
/-- what a walk asks: base tells the heap that must stand -/
abbrev DI := DX → DSt → (List D → Prop) → Prop
def LI (own : Bool) (W : WX) (Ow O : List Nat) (R : Ho → Hp → (Addr → Prop) → V → D → Prop) (wi : TI) (d : DI) : Prop := ∀ (g : G) (H : Hp) (σ : L2.St) (δ : DSt) (P : List D → Prop) (er : DX) (Q : It → Hp → Prop), Rel g O H σ δ → WOk W Ow g σ δ er → d er δ P →
  (∀ xs, P xs → ∀ H1 J, Ext g.ho H H1 → Yields R J g.ho (NM g O σ δ) (if own = true then H1 else dropL (NM g O σ δ) H1) xs → Q J H1) → wi σ H Q
def diSeq (x : DE) : DI := fun er δ P => x er δ fun y => ∃ xs, y.seq = some xs ∧ P xs
section
variable {X : Cx} {W : WX} {Ow O : List Nat} {e : Expr} {x : DE} {tg : Expr}
def iSeq (K : PySem.W.Frag) (tl : TE) : TI := fun σ H R => tl σ H fun x H1 => ∃ a, x = .ref a ∧ (((∃ xs, SqL K H1 a xs) ∧ R (Itl K a) H1) ∨ ((∃ xs, SqT K H1 a xs) ∧ R (Itt K a) H1))
theorem pi_seq {l : Expr} {tl : TE} (hl : PE X l tl) : PI X tg l (iSeq X.K tl) := by
  refine ⟨fun pins s σ H R I h => ?_⟩
  refine thn (hl.run pins s σ H _ I h) fun v s1 ⟨x, H1, I1, r1, q1⟩ => ?_
  obtain ⟨a, e, h⟩ := q1
  subst e
  cases r1
  rcases h with ⟨⟨xs, hq⟩, q⟩ | ⟨⟨xs, hq⟩, q⟩
  · obtain ⟨its, rv, p, hz⟩ := I1.list hq
    refine wpAny_pyIter_list p.isList ?_
    refine ⟨s1.heap.objs.size, [s1.heap.objs.size], _, _, H1, rfl, I1.kept (t' := s1.toks) fun b o e => Heap.get?_push_of_some _ e, turn_list a _, ⟨_, Heap.get?_push_size _ rfl, rfl, rfl⟩, fun b hb => ?_, q⟩
    have e : b = s1.heap.objs.size := by simpa using hb
    subst e
    exact I1.fpOk (Nat.le_refl _) (I1.hok.fresh (Nat.le_refl _))
  · obtain ⟨its, rv, p, hz⟩ := I1.tuple hq
    refine wpAny_pyIter_tuple (show s1.heap.IsTuple a its.toArray from p) ?_
    refine ⟨s1.heap.objs.size, [s1.heap.objs.size], _, _, H1, rfl, I1.kept (t' := s1.toks) fun b o e => Heap.get?_push_of_some _ e, turn_tuple a _, ⟨_, Heap.get?_push_size _ rfl, rfl, rfl⟩, fun b hb => ?_, q⟩
    have e : b = s1.heap.objs.size := by simpa using hb
    subst e
    exact I1.fpOk (Nat.le_refl _) (I1.hok.fresh (Nat.le_refl _))
theorem li_seq {own : Bool} {K : PySem.W.Frag} : LI own W Ow O Rp (iSeq K (if own = true then upV W Ow O x else upE W Ow O x)) (diSeq x) := by
  intro g H σ δ P er Q r w h k
  have step : ∀ (y : D) (v : V) (H1 : Hp) (xs : List D) (a : Addr) (vs : List V), Ext g.ho H H1 → y.seq = some xs → P xs → (∀ Hb, Hb = (if own = true then H1 else dropL (NM g O σ δ) H1) → (y = .lst xs ∧ v = .ref a ∧ Hb a = some (.lst vs) ∧ off g.ho a ∨ y = .tup xs ∧ v = .ref a ∧ TupN Hb a vs ∧ off g.ho a) ∧ RpA g.ho Hb (NM g O σ δ) vs xs) →
      ∃ a, v = .ref a ∧ (((∃ xs, SqL K H1 a xs) ∧ Q (Itl K a) H1) ∨ ((∃ xs, SqT K H1 a xs) ∧ Q (Itt K a) H1)) := by
    intro y v H1 xs a vs s ey pxs hb
    obtain ⟨hb1, hb2⟩ := hb _ rfl
    have up : Ext g.ho (if own = true then H1 else dropL (NM g O σ δ) H1) H1 := by
      cases own with
      | true => exact .refl
      | false => exact ext_drop (r.ext s).handNow
    have q := k xs pxs H1
    generalize (if own = true then H1 else dropL (NM g O σ δ) H1) = Hb at hb1 hb2 up q
    rcases hb1 with ⟨_, rfl, e1, o1⟩ | ⟨_, rfl, e1, o1⟩
    · refine ⟨a, rfl, .inl ⟨⟨vs, SqL.of (up.keep _ _ e1 o1)⟩, q _ s fun H' s' i => ⟨fun z hz => ?_, fun hz => ?_⟩⟩⟩
      · have at' := s'.keep _ _ e1 o1
        obtain ⟨u, hu, ru⟩ := hb2.getD hz
        refine ⟨⟨vs, u, SqL.of at', hu⟩, fun v2 H2 y2 => ?_⟩
        obtain ⟨eH, y2⟩ := y2
        have hv := y2 vs (SqL.of at')
        rw [hu] at hv
        cases hv
        subst eH
        exact ⟨.refl, fun N' hN => ru.mono s'.keep fun b zs e z => hN b zs e z⟩
      · refine ⟨vs, SqL.of (s'.keep _ _ e1 o1), ?_⟩
        rw [hb2.length]
        exact List.getElem?_eq_none_iff.mp hz
    · obtain ⟨ob, e2, e3⟩ := e1
      refine ⟨a, rfl, .inr ⟨⟨vs, .inl (.inr ⟨ob, up.keep _ _ e2 o1⟩)⟩, q _ s fun H' s' i => ⟨fun z hz => ?_, fun hz => ?_⟩⟩⟩
      · have at' : SqT K H' a vs := .inl (.inr ⟨ob, s'.keep _ _ e2 o1⟩)
        obtain ⟨u, hu, ru⟩ := hb2.getD hz
        refine ⟨⟨vs, u, at', hu⟩, fun v2 H2 y2 => ?_⟩
        obtain ⟨eH, y2⟩ := y2
        have hv := y2 vs at'
        rw [hu] at hv
        cases hv
        subst eH
        exact ⟨.refl, fun N' hN => ru.mono s'.keep fun b zs e z => hN b zs e z⟩
      · refine ⟨vs, .inl (.inr ⟨ob, s'.keep _ _ e2 o1⟩), ?_⟩
        rw [hb2.length]
        exact List.getElem?_eq_none_iff.mp hz
  cases own with
  | true =>
    refine ⟨g, δ, _, er, r, w, h, fun y ⟨xs, ey, pxs⟩ v H1 s z => ?_⟩
    cases y <;> simp only [D.seq] at ey <;> try cases ey
    · obtain ⟨a, vs, e0, e1, e2, e3⟩ := rv_lst z
      exact step _ v H1 _ a vs s rfl pxs fun Hb eb => by
        rw [if_pos rfl] at eb
        subst eb
        exact ⟨.inl ⟨rfl, e0, e2, e1⟩, e3⟩
    · obtain ⟨a, vs, e0, e1, e2, e3⟩ := rv_tup z
      exact step _ v H1 _ a vs s rfl pxs fun Hb eb => by
        rw [if_pos rfl] at eb
        subst eb
        exact ⟨.inr ⟨rfl, e0, e2, e1⟩, e3⟩
  | false =>
    refine ⟨g, δ, _, er, r, w, h, fun y ⟨xs, ey, pxs⟩ v H1 s z => ?_⟩
    have r1 := r.ext s
    have hM : ∀ a, Mo O σ δ a → ∃ vs, H1 a = some (.lst vs) := fun a m => r1.moL m
    have z' : Rp g.ho (dropL (NM g O σ δ) H1) (NM g O σ δ) v y := Rp.dropE (fun _ m => m.2) (fun _ m => m.1) z
    cases y <;> simp only [D.seq] at ey <;> try cases ey
    · cases z' with | @lst a vs _ nN of ea ra =>
      exact step _ _ H1 _ a vs s rfl pxs fun Hb eb => by
        rw [if_neg (fun z => by cases z)] at eb
        subst eb
        exact ⟨.inl ⟨rfl, rfl, ea, of⟩, ra⟩
    · cases z' with | @tup a vs _ o of ea hc hd ra =>
      exact step _ _ H1 _ a vs s rfl pxs fun Hb eb => by
        rw [if_neg (fun z => by cases z)] at eb
        subst eb
        exact ⟨.inr ⟨rfl, rfl, ⟨o, ea, hc, hd⟩, of⟩, ra⟩
/-! ranges -/
def rangeD (lo : Int) : Nat → List D
  | 0 => []
  | n + 1 => .int lo :: rangeD (lo + 1) n
theorem rangeD_length : ∀ (n : Nat) (lo : Int), (rangeD lo n).length = n
  | 0, _ => rfl
  | n + 1, lo => by rw [rangeD, List.length_cons, rangeD_length n]
theorem rangeD_get : ∀ (n : Nat) (lo : Int) (i : Nat), (rangeD lo n)[i]? = if i < n then some (.int (lo + i)) else none
  | 0, lo, i => by rw [if_neg (by omega)]; rfl
  | n + 1, lo, 0 => by rw [if_pos (by omega)]; simp [rangeD]
  | n + 1, lo, i + 1 => by
    rw [rangeD, List.getElem?_cons_succ, rangeD_get n (lo + 1) i]
    by_cases h : i < n
    · rw [if_pos h, if_pos (by omega)]
      congr 2
      omega
    · rw [if_neg h, if_neg (by omega)]
theorem yields_range {lo : Int} {n : Nat} {ho : Ho} {N : Addr → Prop} {Hb : Hp} : Yields Rp (Itr lo n) ho N Hb (rangeD lo n) := fun H' s i => by
  rw [rangeD_get]
  by_cases h : i < n
  · rw [if_pos h]
    refine ⟨fun z hz => ⟨h, fun v H2 y => ?_⟩, fun z => by cases z⟩
    obtain ⟨e1, e2⟩ := y
    subst e1 e2
    cases hz
    exact ⟨.refl, fun _ _ => .int _⟩
  · rw [if_neg h]
    exact ⟨fun z hz => (by cases hz), fun _ => Nat.le_of_not_lt h⟩
def diRng1 (d : DE) : DI := fun er δ P => d er δ fun y => ∃ j : Int, y = .int j ∧ (-4611686018427387904 ≤ j ∧ j < 4611686018427387904) ∧ P (rangeD 0 j.toNat)
def diRng2 (a b : DE) : DI := fun er δ P => a er δ fun y => b er δ fun z => ∃ i j : Int, y = .int i ∧ z = .int j ∧ (-4611686018427387904 ≤ i ∧ i < 4611686018427387904 ∧ -4611686018427387904 ≤ j ∧ j < 4611686018427387904) ∧ P (rangeD i (j - i).toNat)
theorem e62 : (2 : Int) ^ 62 = 4611686018427387904 := by decide
theorem li_rng1 {own : Bool} {d : DE} : LI own W Ow O Rp (iRng1 (tCons (upE W Ow O d) tNil)) (diRng1 d) := by
  intro g H σ δ P er Q r w h k
  refine ⟨g, δ, _, er, r, w, h, fun y ⟨j, ey, ⟨j1, j2⟩, pj⟩ v H1 s z => ?_⟩
  subst ey
  rw [rp_int z]
  exact ⟨j, rfl, by rw [e62]; exact j1, by rw [e62]; exact j2, k _ pj H1 _ s yields_range⟩
theorem li_rng2 {own : Bool} {a b : DE} : LI own W Ow O Rp (iRng2 (tCons (upE W Ow O a) (tCons (upE W Ow O b) tNil))) (diRng2 a b) := by
  intro g H σ δ P er Q r w h k
  refine ⟨g, δ, _, er, r, w, h, fun y py v H1 s z => ⟨g, δ, _, er, r.ext s, w, py, fun y2 ⟨i, j, ey, ez, ⟨j1, j2, j3, j4⟩, pj⟩ v2 H2 s2 z2 => ?_⟩⟩
  subst ey ez
  rw [rp_int z, rp_int z2]
  exact ⟨i, j, rfl, by rw [e62]; exact ⟨j1, j2, j3, j4⟩, k _ pj H2 _ (s.trans s2) yields_range⟩
/-! enumerate -/
def enumD (i : Int) : List D → List D
  | [] => []
  | x :: xs => .tup [.int i, x] :: enumD (i + 1) xs
theorem enumD_length : ∀ (xs : List D) (i : Int), (enumD i xs).length = xs.length
  | [], _ => rfl
  | x :: xs, i => by rw [enumD, List.length_cons, List.length_cons, enumD_length xs]
theorem enumD_get : ∀ (xs : List D) (i : Int) (j : Nat), (enumD i xs)[j]? = (xs[j]?).map fun x => .tup [.int (i + j), x]
  | [], _, _ => rfl
  | x :: xs, i, 0 => by simp [enumD]
  | x :: xs, i, j + 1 => by
    rw [enumD, List.getElem?_cons_succ, List.getElem?_cons_succ, enumD_get xs (i + 1) j]
    have e : i + 1 + (j : Int) = i + ((j + 1 : Nat) : Int) := by omega
    rw [e]
theorem yields_enum {K : PySem.W.Frag} {ho : Ho} {N : Addr → Prop} {Hb : Hp} {a : Addr} {vs : List V} {xs : List D} (hand : ∀ H', Ext ho Hb H' → ∀ h q, ho = some (h, q) → HandAt H' h q) (e1 : Hb a = some (.lst vs)) (o1 : off ho a) (ra : RpA ho Hb N vs xs) : Yields Rt (Ite K a) ho N Hb (enumD 0 xs) := fun H' s' i => by
  rw [enumD_get]
  have at' := s'.keep _ _ e1 o1
  refine ⟨fun z hz => ?_, fun hz => ?_⟩
  · cases ei : xs[i]? with
    | none => rw [ei] at hz; cases hz
    | some x =>
      rw [ei] at hz
      cases hz
      obtain ⟨u, hu, ru⟩ := ra.getD ei
      refine ⟨⟨vs, u, SqL.of at', hu⟩, fun v2 H2 y2 => ?_⟩
      obtain ⟨T, w, rfl, hT, rfl, y2⟩ := y2
      have hv := y2 vs (SqL.of at')
      rw [hu] at hv
      cases hv
      refine ⟨Ext.new hT, fun N' hN => .inr ⟨_, T, _, rfl, rfl, fun K => SqT.of upd_same, .cons (by rw [Int.zero_add]; exact .int _) (.cons ((ru.mono s'.keep fun b zs e z => hN b zs e z).ext (Ext.new hT)) .nil)⟩⟩
  · refine ⟨vs, SqL.of at', ?_⟩
    rw [ra.length]
    cases ei : xs[i]? with
    | none => exact List.getElem?_eq_none_iff.mp ei
    | some x => rw [ei] at hz; cases hz
theorem yields_enumT {K : PySem.W.Frag} {ho : Ho} {N : Addr → Prop} {Hb : Hp} {a : Addr} {vs : List V} {xs : List D} (e1 : TupN Hb a vs) (o1 : off ho a) (ra : RpA ho Hb N vs xs) : Yields Rt (Itp K a) ho N Hb (enumD 0 xs) := fun H' s' i => by
  rw [enumD_get]
  obtain ⟨ob, e2, _⟩ := e1
  have at' : SqT K H' a vs := .inl (.inr ⟨ob, s'.keep _ _ e2 o1⟩)
  refine ⟨fun z hz => ?_, fun hz => ?_⟩
  · cases ei : xs[i]? with
    | none => rw [ei] at hz; cases hz
    | some x =>
      rw [ei] at hz
      cases hz
      obtain ⟨u, hu, ru⟩ := ra.getD ei
      refine ⟨⟨vs, u, at', hu⟩, fun v2 H2 y2 => ?_⟩
      obtain ⟨T, w, rfl, hT, rfl, y2⟩ := y2
      have hv := y2 vs at'
      rw [hu] at hv
      cases hv
      refine ⟨Ext.new hT, fun N' hN => .inr ⟨_, T, _, rfl, rfl, fun K => SqT.of upd_same, .cons (by rw [Int.zero_add]; exact .int _) (.cons ((ru.mono s'.keep fun b zs e z => hN b zs e z).ext (Ext.new hT)) .nil)⟩⟩
  · refine ⟨vs, at', ?_⟩
    rw [ra.length]
    cases ei : xs[i]? with
    | none => exact List.getElem?_eq_none_iff.mp ei
    | some x => rw [ei] at hz; cases hz
def diEnum (d : DE) : DI := fun er δ P => d er δ fun y => ∃ xs, y.seq = some xs ∧ P (enumD 0 xs)
theorem li_enum {own : Bool} {K : PySem.W.Frag} {d : DE} : LI own W Ow O Rt (iEnumE K (tCons (if own = true then upV W Ow O d else upE W Ow O d) tNil)) (diEnum d) := by
  intro g H σ δ P er Q r w h k
  have step : ∀ (y : D) (v : V) (H1 : Hp) (xs : List D) (a : Addr) (vs : List V), Ext g.ho H H1 → y.seq = some xs → P (enumD 0 xs) → (∀ Hb, Hb = (if own = true then H1 else dropL (NM g O σ δ) H1) → (y = .lst xs ∧ v = .ref a ∧ Hb a = some (.lst vs) ∧ off g.ho a ∨ y = .tup xs ∧ v = .ref a ∧ TupN Hb a vs ∧ off g.ho a) ∧ RpA g.ho Hb (NM g O σ δ) vs xs) →
      ∃ (a : Addr) (xs : List V), [v] = [.ref a] ∧ ((SqL K H1 a xs ∧ Q (Ite K a) H1) ∨ (SqT K H1 a xs ∧ Q (Itp K a) H1)) := by
    intro y v H1 xs a vs s ey pxs hb
    obtain ⟨hb1, hb2⟩ := hb _ rfl
    have up : Ext g.ho (if own = true then H1 else dropL (NM g O σ δ) H1) H1 := by
      cases own with
      | true => exact .refl
      | false => exact ext_drop (r.ext s).handNow
    have q := k _ pxs H1
    have hand : ∀ H', Ext g.ho (if own = true then H1 else dropL (NM g O σ δ) H1) H' → True := fun _ _ => True.intro
    generalize (if own = true then H1 else dropL (NM g O σ δ) H1) = Hb at hb1 hb2 up q
    rcases hb1 with ⟨_, rfl, e1, o1⟩ | ⟨_, rfl, e1, o1⟩
    · refine ⟨a, vs, rfl, .inl ⟨SqL.of (up.keep _ _ e1 o1), q _ s ?_⟩⟩
      intro H' s' i
      rw [enumD_get]
      have at' := s'.keep _ _ e1 o1
      refine ⟨fun z hz => ?_, fun hz => ?_⟩
      · cases ei : xs[i]? with
        | none => rw [ei] at hz; cases hz
        | some x =>
          rw [ei] at hz
          cases hz
          obtain ⟨u, hu, ru⟩ := hb2.getD ei
          refine ⟨⟨vs, u, SqL.of at', hu⟩, fun v2 H2 y2 => ?_⟩
          obtain ⟨T, w, rfl, hT, rfl, y2⟩ := y2
          have hv := y2 vs (SqL.of at')
          rw [hu] at hv
          cases hv
          exact ⟨Ext.new hT, fun N' hN => .inr ⟨_, T, _, rfl, rfl, fun K => SqT.of upd_same, .cons (by rw [Int.zero_add]; exact .int _) (.cons ((ru.mono s'.keep fun b zs e z => hN b zs e z).ext (Ext.new hT)) .nil)⟩⟩
      · refine ⟨vs, SqL.of at', ?_⟩
        rw [hb2.length]
        cases ei : xs[i]? with
        | none => exact List.getElem?_eq_none_iff.mp ei
        | some x => rw [ei] at hz; cases hz
    · obtain ⟨ob, e2, _⟩ := id e1
      exact ⟨a, vs, rfl, .inr ⟨.inl (.inr ⟨ob, up.keep _ _ e2 o1⟩), q _ s (yields_enumT e1 o1 hb2)⟩⟩
  cases own with
  | true =>
    refine ⟨g, δ, _, er, r, w, h, fun y ⟨xs, ey, pxs⟩ v H1 s z => ?_⟩
    cases y <;> simp only [D.seq] at ey <;> try cases ey
    · obtain ⟨a, vs, e0, e1, e2, e3⟩ := rv_lst z
      exact step _ v H1 _ a vs s rfl pxs fun Hb eb => by
        rw [if_pos rfl] at eb
        subst eb
        exact ⟨.inl ⟨rfl, e0, e2, e1⟩, e3⟩
    · obtain ⟨a, vs, e0, e1, e2, e3⟩ := rv_tup z
      exact step _ v H1 _ a vs s rfl pxs fun Hb eb => by
        rw [if_pos rfl] at eb
        subst eb
        exact ⟨.inr ⟨rfl, e0, e2, e1⟩, e3⟩
  | false =>
    refine ⟨g, δ, _, er, r, w, h, fun y ⟨xs, ey, pxs⟩ v H1 s z => ?_⟩
    have r1 := r.ext s
    have hM : ∀ a, Mo O σ δ a → ∃ vs, H1 a = some (.lst vs) := fun a m => r1.moL m
    have z' : Rp g.ho (dropL (NM g O σ δ) H1) (NM g O σ δ) v y := Rp.dropE (fun _ m => m.2) (fun _ m => m.1) z
    cases y <;> simp only [D.seq] at ey <;> try cases ey
    · cases z' with | @lst a vs _ nN of ea ra =>
      exact step _ _ H1 _ a vs s rfl pxs fun Hb eb => by
        rw [if_neg (fun z => by cases z)] at eb
        subst eb
        exact ⟨.inl ⟨rfl, rfl, ea, of⟩, ra⟩
    · cases z' with | @tup a vs _ o of ea hc hd ra =>
      exact step _ _ H1 _ a vs s rfl pxs fun Hb eb => by
        rw [if_neg (fun z => by cases z)] at eb
        subst eb
        exact ⟨.inr ⟨rfl, rfl, ⟨o, ea, hc, hd⟩, of⟩, ra⟩
/-! ### for -/
def dFor (di : DI) (g : DG) (b : DS) : DS := fun p er δ => di (er δ) δ fun xs => ∃ I : Nat → DSt → Prop, I 0 δ ∧ (∀ k δ' x, I k δ' → xs[k]? = some x → g x δ' fun δ2 => b { nx := I (k + 1), rt := p.rt, bk := p.nx, ct := I (k + 1) } er δ2) ∧ ∀ δ', I xs.length δ' → p.nx δ'
theorem Rel.loopIn {g : G} {H : Hp} {σ : L2.St} {δ : DSt} (r : Rel g O H σ δ) : Rel { N := g.N, ho := g.ho, H0 := dropM (Mo O σ δ) H } O H σ δ where
  len := r.len
  base := ext_drop r.handNow
  hand := fun h q e => by
    have x := r.handNow h q e
    obtain ⟨cs, i, r', t, h1, h2, m⟩ := x.ex
    have x0 := r.hand h q e
    obtain ⟨cs0, i0, r0, t0, g1, g2, _⟩ := x0.ex
    have no : ∀ b, Mo O σ δ b → g.H0 b = none := fun b ⟨j, d, hj, k1, k2⟩ => by
      obtain ⟨c, _, _, _, k3, _, k4, _⟩ := r.own j d hj k2
      rw [k3] at k1
      cases k1
      exact k4
    exact ⟨cs, i, r', t, (dropM_out (fun z => by rw [no _ z] at g1; cases g1)).trans h1, (dropM_out (fun z => by rw [no _ z] at g2; cases g2)).trans h2, m⟩
  nall := fun a z e => by
    have nm : ¬ Mo O σ δ a := fun ⟨j, d, hj, k1, k2⟩ => by
      obtain ⟨c, _, _, _, k3, _, k4, _⟩ := r.own j d hj k2
      rw [k3] at k1
      cases k1
      exact r.nall _ z k4
    exact r.hc.all a (.inl z) ((dropM_out nm).symm.trans e)
  free := r.free
  own := fun i d hi e => by
    obtain ⟨a, vs, ds, h1, h2, h3, h4, h5, h6⟩ := r.own i d hi e
    exact ⟨a, vs, ds, h1, h2, h3, dropM_in ⟨i, d, hi, h2, e⟩, h5, h6⟩
  apart := r.apart
theorem base_in {g : G} {H : Hp} {σ : L2.St} {δ : DSt} (r : Rel g O H σ δ) : Ext g.ho g.H0 (dropM (Mo O σ δ) H) := by
  have no : ∀ b, Mo O σ δ b → g.H0 b = none := fun b ⟨j, d, hj, k1, k2⟩ => by
    obtain ⟨c, _, _, _, k3, _, k4, _⟩ := r.own j d hj k2
    rw [k3] at k1
    cases k1
    exact k4
  exact ⟨fun a o e n => by rw [dropM_out (fun z => by rw [no _ z] at e; cases e)]; exact r.base.keep a o e n, fun h q e x => r.loopIn.hand h q e⟩
theorem Rel.loopOut {g : G} {O' : List Nat} {H H' : Hp} {σ σ' : L2.St} {δ δ' : DSt} (r : Rel g O H σ δ) (r' : Rel { N := g.N, ho := g.ho, H0 := dropM (Mo O σ δ) H } O' H' σ' δ') : Rel g O' H' σ' δ' where
  len := r'.len
  base := (base_in r).trans r'.base
  hand := r.hand
  nall := r.nall
  free := r'.free
  own := fun i d hi e => by
    obtain ⟨a, vs, ds, h1, h2, h3, h4, h5, h6⟩ := r'.own i d hi e
    refine ⟨a, vs, ds, h1, h2, h3, ?_, h5, h6⟩
    cases z : g.H0 a with
    | none => rfl
    | some o =>
      have := (base_in r).keep a o z h3
      rw [show dropM (Mo O σ δ) H a = none from h4] at this
      cases this
  apart := r'.apart
variable {iter : Expr} {body : List Stmt} {wi : TI} {R : Ho → Hp → (Addr → Prop) → V → D → Prop} {di : DI} {tgt : TG} {dg : DG} {db : DS} {pos : Pos} {vs : List Nat}
theorem s_for (hp : PassesOwn (model X.prog X.w) X.A X.env X.xe) (hc : X.calm = true) (hOw : ∀ i, i ∈ Ow → i ∈ O) (hi : PI X tg iter wi) (Li : LI false W Ow O R wi di) (hg : PG X tg tgt) (Lg : LG O vs R tgt dg) (hb : PSs X body (upS W Ow O O db))
    (hs : ∀ x, foldedSetIterable iter X.env x = pure x := by intro _; rfl) : PS X (.For tg iter body [] pos) (upS W Ow O O (dFor di dg db)) :=
  ps_weak (ps_for hp hc hi hg hb hs) fun E σ H ⟨g, δ, p, er, u⟩ => by
    refine Li g H σ δ _ _ _ u.rel (u.ws.at _ _) u.rd fun xs ⟨I, i0, turn, done⟩ H1 J s1 Y => ?_
    have r1 := u.rel.ext s1
    have rl := r1.loopIn
    rw [if_neg (fun z => by cases z)] at Y
    refine ⟨fun i m σ' H' => m = xs.length - i ∧ i ≤ xs.length ∧ ∃ δ', Rel { N := g.N, ho := g.ho, H0 := dropM (Mo O σ δ) H1 } O H' σ' δ' ∧ I i δ', ⟨xs.length, by simp, Nat.zero_le _, δ, rl, i0⟩, ?_⟩
    rintro i m σ' H' ⟨rfl, hi', δ', r', pI⟩
    obtain ⟨yg, ys⟩ := Y H' (dropL_ext (fun a m => ⟨.inr m, r1.moL m⟩) r'.base r'.handNow) i
    cases ei : xs[i]? with
    | none =>
      have e : i = xs.length := Nat.le_antisymm hi' (List.getElem?_eq_none_iff.mp ei)
      subst e
      exact .inl ⟨ys ei, u.nx _ _ _ (r1.loopOut r') (done δ' pI)⟩
    | some x =>
      obtain ⟨go, yl⟩ := yg x ei
      have il := (List.getElem?_eq_some_iff.mp ei).1
      refine .inr ⟨go, fun σ2 H2 => ∃ δ2, Rel { N := g.N, ho := g.ho, H0 := dropM (Mo O σ δ) H1 } O H2 σ2 δ2 ∧ I (i + 1) δ2, fun σ2 H2 z => ⟨_, by omega, rfl, il, z⟩, fun v H2 y => ?_⟩
      obtain ⟨s2, rv⟩ := yl v H2 y
      have r2 := r'.ext s2
      refine Lg _ H2 σ' δ' v x _ _ r2 (rv _ fun a zs e z => ?_) (turn i δ' x pI ei) fun δ3 σ3 r3 _ _ q => ?_
      · rcases z with z | ⟨j, d, hj, k1, k2⟩
        · exact .inl z
        · obtain ⟨c, _, _, _, k3, _, k4, _⟩ := r2.own j d hj k2
          rw [k3] at k1
          cases k1
          obtain ⟨e1, e2⟩ := dropM_some e
          have k5 : dropM (Mo O σ δ) H1 _ = none := k4
          by_cases m : Mo O σ δ a
          · exact .inr m
          · rw [dropM_out m, e2] at k5
            cases k5
      · exact ⟨_, δ3, _, er, { rel := r3, ws := fun δ4 C fs he σ4 dd H4 r4 x4 => u.ws δ4 C fs he σ4 dd H4 (r1.loopOut r4) x4, rd := q, nx := fun δ4 σ4 H4 r4 q4 => ⟨δ4, r4, q4⟩, rt := fun y v H4 s4 z q4 => u.rt y v H4 ((base_in r1).trans s4) z q4, bk := fun δ4 σ4 H4 r4 q4 => u.nx _ _ _ (r1.loopOut r4) q4, ct := fun δ4 σ4 H4 r4 q4 => ⟨δ4, r4, q4⟩ }⟩
end
end DL
set_option Elab.async false
set_option linter.all false
set_option maxRecDepth 100000
set_option maxHeartbeats 4000000
namespace DL
open PySem PySem.Spec PyProof.Rows L2 Gen
/-! ### comprehensions -/
def wipeD (δ : DSt) : List Nat → DSt
  | [] => δ
  | v :: vs => (wipeD δ vs).set v none
theorem wipe_wipe {σ : L2.St} : ∀ {us vs : List Nat}, (∀ v, v ∈ us → v ∈ vs) → wipe (wipe σ us) vs = wipe σ vs
  | [], _, _ => rfl
  | u :: us, vs, h => by
    show wipe ((wipe σ us).set u none) vs = _
    rw [wipe_set (h u List.mem_cons_self)]
    exact wipe_wipe fun v hv => h v (List.mem_cons_of_mem _ hv)
abbrev noX : DX := fun _ _ => False
abbrev noW : WX := fun _ _ _ _ => False
theorem wok_no {Ow : List Nat} {g : G} {σ : L2.St} {δ : DSt} {W : WX} : WOk W Ow g σ δ noX := fun _ _ h => h.elim
def dLc (di : DI) (g : DG) (tt : DT) (te : DE) (vs : List Nat) : DE := fun er δ P => di er δ fun xs => ∃ I : Nat → List D → Prop, I 0 [] ∧
  (∀ k acc x, I k acc → xs[k]? = some x → g x (wipeD δ vs) fun δ2 => tt noX δ2 fun b => if b = true then te noX δ2 fun y => acc.length < sizeLine ∧ I (k + 1) (acc ++ [y]) else I (k + 1) acc) ∧ ∀ acc, I xs.length acc → P (.lst acc)
section
variable {O : List Nat}
theorem Rel.wipe {g : G} {H : Hp} {σ : L2.St} {δ : DSt} (r : Rel g O H σ δ) : ∀ {vs : List Nat}, (∀ v, v ∈ vs → v ∉ O) → Rel g O H (L2.wipe σ vs) (wipeD δ vs)
  | [], _ => r
  | v :: vs, h => (Rel.wipe r fun u hu => h u (List.mem_cons_of_mem _ hu)).forget (h v List.mem_cons_self)
theorem wipeD_off {δ : DSt} {j : Nat} : ∀ {vs : List Nat}, j ∉ vs → (wipeD δ vs)[j]? = δ[j]?
  | [], _ => rfl
  | v :: vs, h => by
    have n : v ≠ j := fun z => h (z ▸ List.mem_cons_self)
    unfold wipeD
    rw [set_off n, wipeD_off fun z => h (List.mem_cons_of_mem _ z)]
theorem wipe_off {σ : L2.St} {j : Nat} : ∀ {vs : List Nat}, j ∉ vs → (L2.wipe σ vs)[j]? = σ[j]?
  | [], _ => rfl
  | v :: vs, h => by
    have n : v ≠ j := fun z => h (z ▸ List.mem_cons_self)
    unfold L2.wipe
    rw [set_off n, wipe_off fun z => h (List.mem_cons_of_mem _ z)]
theorem mo_wipe {σ : L2.St} {δ : DSt} {vs : List Nat} (h : ∀ v, v ∈ vs → v ∉ O) (a : Addr) : Mo O (L2.wipe σ vs) (wipeD δ vs) a ↔ Mo O σ δ a := by
  constructor
  · rintro ⟨j, d, hj, h1, h2⟩
    have n : j ∉ vs := fun z => h j z hj
    rw [wipe_off n] at h1
    rw [wipeD_off n] at h2
    exact ⟨j, d, hj, h1, h2⟩
  · rintro ⟨j, d, hj, h1, h2⟩
    have n : j ∉ vs := fun z => h j z hj
    exact ⟨j, d, hj, by rw [wipe_off n]; exact h1, by rw [wipeD_off n]; exact h2⟩
/-- while a new list at p is being filled: it is not named -/
theorem Rel.addN {g : G} {H1 H2 : Hp} {σ : L2.St} {δ : DSt} {p : Addr} {acc : List V} (r : Rel g O H1 σ δ) (hp : H1 p = none) (s : Ext g.ho H1 H2) (e : H2 p = some (.lst acc)) : Rel { N := fun a => g.N a ∨ a = p, ho := g.ho, H0 := dropM (Mo O σ δ) H2 } O H2 σ δ := by
  have r2 := r.ext s
  have rl := r2.loopIn
  have sub : ∀ a, NM { N := fun a => g.N a ∨ a = p, ho := g.ho, H0 := dropM (Mo O σ δ) H2 } O σ δ a → NM g O σ δ a ∨ a = p := fun a z => by
    rcases z with (z | z) | z
    · exact .inl (.inl z)
    · exact .inr z
    · exact .inl (.inr z)
  refine ⟨rl.len, rl.base, rl.hand, fun a z => ?_, fun i d hi h => ?_, fun i d hi h => ?_, rl.apart⟩
  · rcases z with z | z
    · exact rl.nall a z
    · subst z
      intro q
      have : dropM (Mo O σ δ) H2 a = H2 a := dropM_out (r.newM hp)
      rw [show dropM (Mo O σ δ) H2 a = none from q, e] at this
      cases this
  · obtain ⟨v, h1, h2⟩ := r.free i d hi h
    exact ⟨v, h1, ((h2.put hp).ext s).mono (fun _ _ e _ => e) fun a _ _ z => sub a z⟩
  · obtain ⟨a, vs, ds, h1, h2, h3, h4, h5, h6⟩ := r.own i d hi h
    obtain ⟨a', vs', ds', k1, k2, k3, k4, k5, k6⟩ := rl.own i d hi h
    rw [h2] at k2
    cases k2
    exact ⟨a, vs, ds, h1, h2, h3, k4, s.keep _ _ h5 h3, ((h6.put hp).ext s).mono (fun _ _ e _ => e) fun a _ _ z => sub a z⟩
/-- a list that nothing names is written -/
theorem Rp.updOff {ho : Ho} {H : Hp} {N : Addr → Prop} {p : Addr} {acc new : List V} (e : H p = some (.lst acc)) (np : N p) {v : V} {d : D} (r : Rp ho H N v d) : Rp ho (upd H p (.lst new)) N v d := by
  refine Rp.rec (motive_1 := fun v d _ => Rp ho (upd H p (.lst new)) N v d) (motive_2 := fun v d _ => RpA ho (upd H p (.lst new)) N v d) (motive_3 := fun v d _ => RpF ho (upd H p (.lst new)) N v d) ?_ ?_ ?_ ?_ ?_ ?_ ?_ ?_ ?_ ?_ ?_ ?_ ?_ ?_ ?_ ?_ r
  · exact .non
  · exact .bl
  · exact .int
  · exact .str
  · exact .ty
  · intro b ws es2 nN of eb _ ih
    exact .lst nN of (by rw [upd_ne (fun z => nN (by rw [z]; exact np))]; exact eb) ih
  · intro b ws es2 o of eb hc hd _ ih
    exact .tup of (by rw [upd_ne (fun z => by rw [z, e] at eb; cases eb)]; exact eb) hc hd ih
  · intro b C dx fs gs of eb _ ih
    exact .ins of (by rw [upd_ne (fun z => by rw [z, e] at eb; cases eb)]; exact eb) ih
  · intro h q eh
    exact .hand eh
  · intro b kvs of eb
    exact .dk of (by rw [upd_ne (fun z => by rw [z, e] at eb; cases eb)]; exact eb)
  · exact .raw
  · intro b C dd cls ws fs ec of eb _ ih
    exact .exc ec of (by rw [upd_ne (fun z => by rw [z, e] at eb; cases eb)]; exact eb) ih
  · exact .nil
  · intro v d vs ds _ _ h1 h2
    exact .cons h1 h2
  · exact .nil
  · intro x v d vs ds _ _ h1 h2
    exact .cons h1 h2
theorem RpA.updOff {ho : Ho} {H : Hp} {N : Addr → Prop} {p : Addr} {acc new : List V} (e : H p = some (.lst acc)) (np : N p) : ∀ {vs : List V} {ds : List D}, RpA ho H N vs ds → RpA ho (upd H p (.lst new)) N vs ds
  | _, _, .nil => .nil
  | _, _, .cons h t => .cons (h.updOff e np) (RpA.updOff e np t)
/-- what is new behind H1 may change -/
theorem Ext.updNew {ho : Ho} {H1 H : Hp} {p : Addr} {o : HO} (s : Ext ho H1 H) (hand : ∀ h q, ho = some (h, q) → HandAt H1 h q) (hp : H1 p = none) : Ext ho H1 (upd H p o) := by
  refine ⟨fun a u e n => by rw [upd_ne (fun z => by rw [z, hp] at e; cases e)]; exact s.keep a u e n, fun h q e x => ?_⟩
  obtain ⟨cs, i, r, t, h1, h2, m⟩ := (s.hand h q e x).ex
  obtain ⟨cs0, i0, r0, t0, g1, g2, _⟩ := (hand h q e).ex
  exact ⟨cs, i, r, t, by rw [upd_ne (fun z => by rw [z, hp] at g1; cases g1)]; exact h1, by rw [upd_ne (fun z => by rw [z, hp] at g2; cases g2)]; exact h2, m⟩
/-- a list under way: at p, of acc, for ys -/
structure Fill (g : G) (O : List Nat) (σ : L2.St) (δ : DSt) (H1 : Hp) (p : Addr) (H : Hp) (ys : List D) : Prop where
  ext : Ext g.ho H1 H
  ex : ∃ acc, H p = some (.lst acc) ∧ RpA g.ho H (fun a => NM g O σ δ a ∨ a = p) acc ys
theorem Fill.step {g : G} {σ : L2.St} {δ : DSt} {H1 H H4 : Hp} {p : Addr} {ys : List D} {v : V} {y : D} (r : Rel g O H1 σ δ) (hp : H1 p = none) (f : Fill g O σ δ H1 p H ys) (s : Ext g.ho H H4) (rv : Rp g.ho H4 (fun a => NM g O σ δ a ∨ a = p) v y) (hl : ys.length < sizeLine) :
    ∃ acc, H4 p = some (.lst acc) ∧ acc.length < sizeLine ∧ Fill g O σ δ H1 p (upd H4 p (.lst (acc ++ [v]))) (ys ++ [y]) := by
  obtain ⟨s1, acc, e, ra⟩ := f
  have e4 := s.keep _ _ e (r.off_free hp)
  refine ⟨acc, e4, by rw [ra.length]; exact hl, (s1.trans s).updNew r.handNow hp, _, upd_same, ((ra.ext s).append (.cons rv .nil)).updOff e4 (.inr rfl)⟩
variable {X : Cx} {W : WX} {Ow : List Nat} {tg iter elt : Expr} {ifs : List Expr} {own : Bool} {wi : TI} {R : Ho → Hp → (Addr → Prop) → V → D → Prop} {di : DI} {tgt : TG} {dg : DG} {tt : TT} {dt : DT} {te : TE} {de : DE} {vs : List Nat}
theorem lc_ (Li : LI own W Ow O R wi di) (Lg : LG O vs R tgt dg) (hv : ∀ v, v ∈ vs → v ∉ O) {σ : L2.St} {H : Hp} {Q : VK} (h : upF W Ow O (dLc di dg dt de vs) σ H Q) : tLc wi tgt (upT noW [] O dt) (upE noW [] O de) vs σ H Q := by
  obtain ⟨g, δ, P, er, r, w, q, k⟩ := h
  refine Li g H σ δ _ _ _ r w q fun xs ⟨I, i0, turn, done⟩ H1 J s1 Y p hp => ?_
  have r1 := r.ext s1
  have op := r1.off_free hp
  have eb : ∀ {H'}, Ext g.ho H1 H' → Ext g.ho (if own = true then H1 else dropL (NM g O σ δ) H1) H' := fun {H'} s => by
    cases own with
    | true => exact s
    | false => exact (ext_drop r1.handNow).trans s
  have hbp : ∀ {zs : List V}, (if own = true then H1 else dropL (NM g O σ δ) H1) p = some (.lst zs) → False := fun {zs} z => by
    cases own with
    | true => rw [if_pos rfl, hp] at z; cases z
    | false => rw [if_neg (fun z => by cases z)] at z; rw [(dropM_some z).2] at hp; cases hp
  refine ⟨fun i m H' => m = xs.length - i ∧ i ≤ xs.length ∧ ∃ ys, Fill g O σ δ H1 p H' ys ∧ I i ys, ⟨xs.length, by simp, Nat.zero_le _, [], ⟨Ext.new hp, [], upd_same, .nil⟩, i0⟩, ?_⟩
  rintro i m H' ⟨rfl, hi, ys, f, pI⟩
  obtain ⟨yg, ystop⟩ := Y H' (eb f.ext) i
  cases ei : xs[i]? with
  | none =>
    have e : i = xs.length := Nat.le_antisymm hi (List.getElem?_eq_none_iff.mp ei)
    subst e
    obtain ⟨acc, ea, ra⟩ := f.ex
    exact .inl ⟨ystop ei, k _ (done _ pI) _ H' (s1.trans f.ext) (rF r.hc s1 ⟨p, acc, ys, rfl, rfl, hp, ea, ra⟩)⟩
  | some x =>
    obtain ⟨go, yl⟩ := yg x ei
    have il := (List.getElem?_eq_some_iff.mp ei).1
    refine .inr ⟨go, fun H2 => ∃ ys, Fill g O σ δ H1 p H2 ys ∧ I (i + 1) ys, fun H2 z => ⟨_, by omega, rfl, il, z⟩, fun v H2 y => ?_⟩
    obtain ⟨s2, rv⟩ := yl v H2 y
    obtain ⟨acc, ea, ra⟩ := f.ex
    have ea2 := s2.keep _ _ ea op
    have rN := r1.addN hp (f.ext.trans s2) ea2
    have rW := rN.wipe hv
    have nm : ∀ a, NM { N := fun a => g.N a ∨ a = p, ho := g.ho, H0 := dropM (Mo O σ δ) H2 } O (L2.wipe σ vs) (wipeD δ vs) a ↔ NM g O σ δ a ∨ a = p := fun a => by
      show ((g.N a ∨ a = p) ∨ Mo O _ _ a) ↔ ((g.N a ∨ Mo O σ δ a) ∨ a = p)
      rw [mo_wipe hv]
      constructor
      · rintro ((z | z) | z)
        · exact .inl (.inl z)
        · exact .inr z
        · exact .inl (.inr z)
      · rintro ((z | z) | z)
        · exact .inl (.inl z)
        · exact .inr z
        · exact .inl (.inr z)
    refine Lg _ H2 _ _ v x _ _ rW (rv _ fun a zs e z => ?_) (turn i ys x pI ei) fun δ3 σ3 r3 sub w3 q3 => ⟨w3.trans (wipe_wipe fun _ z => z), _, δ3, _, noX, r3, wok_no, q3, fun b pb H3 s3 => ?_⟩
    · rcases (nm a).mp z with z | z
      · exact z
      · subst z
        exact (hbp e).elim
    · cases b with
      | true =>
        rw [if_pos rfl] at pb ⊢
        refine ⟨_, δ3, _, noX, r3.ext s3, wok_no, pb, fun y ⟨yl2, yI⟩ u H4 s4 ru => ?_⟩
        obtain ⟨acc2, e1, e2, f2⟩ := f.step r1 hp ((s2.trans s3).trans s4) (ru.mono (fun _ _ e _ => e) fun a _ _ z => (sub a).mpr ((nm a).mpr z)) yl2
        exact ⟨acc2, e1, e2, _, f2, yI⟩
      | false =>
        rw [if_neg (fun z => by cases z)] at pb ⊢
        exact ⟨ys, ⟨(f.ext.trans s2).trans s3, acc, s3.keep _ _ ea2 op, ra.ext (s2.trans s3)⟩, pb⟩
end
end DL
set_option Elab.async false
set_option linter.all false
set_option maxRecDepth 100000
set_option maxHeartbeats 4000000
namespace DL
open PySem PySem.Spec PyProof.Rows L2 Gen
/-! ### two clauses -/
def dLc2 (di : DI) (g : DG) (tt : DT) (di1 : DI) (g1 : DG) (tt1 : DT) (te : DE) (vs vs1 : List Nat) : DE := fun er δ P => di er δ fun xs => ∃ I : Nat → List D → Prop, I 0 [] ∧
  (∀ k acc x, I k acc → xs[k]? = some x → g x (wipeD δ vs) fun δ2 => tt noX δ2 fun b => if b = true then di1 noX δ2 fun ys => ∃ I1 : Nat → List D → Prop, I1 0 acc ∧
    (∀ j acc1 y, I1 j acc1 → ys[j]? = some y → g1 y (wipeD δ2 vs1) fun δ3 => tt1 noX δ3 fun b => if b = true then te noX δ3 fun z => acc1.length < sizeLine ∧ I1 (j + 1) (acc1 ++ [z]) else I1 (j + 1) acc1) ∧ ∀ acc1, I1 ys.length acc1 → I (k + 1) acc1 else I (k + 1) acc) ∧ ∀ acc, I xs.length acc → P (.lst acc)
theorem Rp.moved {ho : Ho} {H H' : Hp} {N : Addr → Prop} {p : Addr} {acc : List V} (e : H p = some (.lst acc)) (np : N p) (k : ∀ a o, a ≠ p → H a = some o → off ho a → H' a = some o) {v : V} {d : D} (r : Rp ho H N v d) : Rp ho H' N v d := by
  refine Rp.rec (motive_1 := fun v d _ => Rp ho H' N v d) (motive_2 := fun v d _ => RpA ho H' N v d) (motive_3 := fun v d _ => RpF ho H' N v d) ?_ ?_ ?_ ?_ ?_ ?_ ?_ ?_ ?_ ?_ ?_ ?_ ?_ ?_ ?_ ?_ r
  · exact .non
  · exact .bl
  · exact .int
  · exact .str
  · exact .ty
  · intro b ws es2 nN of eb _ ih
    exact .lst nN of (k _ _ (fun z => nN (by rw [z]; exact np)) eb of) ih
  · intro b ws es2 o of eb hc hd _ ih
    exact .tup of (k _ _ (fun z => by rw [z, e] at eb; cases eb) eb of) hc hd ih
  · intro b C dx fs gs of eb _ ih
    exact .ins of (k _ _ (fun z => by rw [z, e] at eb; cases eb) eb of) ih
  · intro h q eh
    exact .hand eh
  · intro b kvs of eb
    exact .dk of (k _ _ (fun z => by rw [z, e] at eb; cases eb) eb of)
  · exact .raw
  · intro b C dd cls ws fs ec of eb _ ih
    exact .exc ec of (k _ _ (fun z => by rw [z, e] at eb; cases eb) eb of) ih
  · exact .nil
  · intro v d vs ds _ _ h1 h2
    exact .cons h1 h2
  · exact .nil
  · intro x v d vs ds _ _ h1 h2
    exact .cons h1 h2
theorem RpA.moved {ho : Ho} {H H' : Hp} {N : Addr → Prop} {p : Addr} {acc : List V} (e : H p = some (.lst acc)) (np : N p) (k : ∀ a o, a ≠ p → H a = some o → off ho a → H' a = some o) : ∀ {vs : List V} {ds : List D}, RpA ho H N vs ds → RpA ho H' N vs ds
  | _, _, .nil => .nil
  | _, _, .cons h t => .cons (h.moved e np k) (RpA.moved e np k t)
/-- a list that nothing names has changed -/
theorem Rel.moved {O : List Nat} {g : G} {H H' : Hp} {σ : L2.St} {δ : DSt} {p : Addr} {acc acc' : List V} (r : Rel g O H σ δ) (np : g.N p) (e : H p = some (.lst acc)) (e' : H' p = some (.lst acc')) (k : ∀ a o, a ≠ p → H a = some o → off g.ho a → H' a = some o) (hand : ∀ h q, g.ho = some (h, q) → HandAt H' h q) :
    Rel { N := g.N, ho := g.ho, H0 := dropM (Mo O σ δ) H' } O H' σ δ := by
  have no : ∀ b, Mo O σ δ b → g.H0 b = none := fun b ⟨j, d, hj, k1, k2⟩ => by
    obtain ⟨c, _, _, _, k3, _, k4, _⟩ := r.own j d hj k2
    rw [k3] at k1
    cases k1
    exact k4
  refine ⟨r.len, ext_drop hand, fun h q eh => ?_, fun a z q => ?_, fun i d hi h => ?_, fun i d hi h => ?_, r.apart⟩
  · obtain ⟨cs, i, r', t, h1, h2, m⟩ := (hand h q eh).ex
    obtain ⟨cs0, i0, r0, t0, g1, g2, _⟩ := (r.hand h q eh).ex
    exact ⟨cs, i, r', t, (dropM_out (fun z => by rw [no _ z] at g1; cases g1)).trans h1, (dropM_out (fun z => by rw [no _ z] at g2; cases g2)).trans h2, m⟩
  · have nm : ¬ Mo O σ δ a := fun m => r.nall a z (no a m)
    have q' : H' a = none := (dropM_out nm).symm.trans q
    by_cases ea : a = p
    · rw [ea, e'] at q'
      cases q'
    · cases ha : H a with
      | none => exact r.hc.all a (.inl z) ha
      | some o =>
        by_cases n : off g.ho a
        · rw [k a o ea ha n] at q'
          cases q'
        · refine n fun h q eh eq => ?_
          obtain ⟨o2, e2⟩ := (hand h q eh).has
          rw [eq, e2] at q'
          cases q'
  · obtain ⟨v, h1, h2⟩ := r.free i d hi h
    exact ⟨v, h1, h2.moved e (.inl np) k⟩
  · obtain ⟨a, vs, ds, h1, h2, h3, h4, h5, h6⟩ := r.own i d hi h
    have ne : a ≠ p := fun z => r.nall p np (by rw [← z]; exact h4)
    exact ⟨a, vs, ds, h1, h2, h3, dropM_in ⟨i, d, hi, h2, h⟩, k _ _ ne h5 h3, h6.moved e (.inl np) k⟩
section
variable {O : List Nat} {X : Cx} {W : WX} {Ow : List Nat} {tg iter elt tg1 iter1 : Expr} {ifs ifs1 : List Expr} {own own1 : Bool} {wi wi1 : TI} {R R1 : Ho → Hp → (Addr → Prop) → V → D → Prop} {di di1 : DI} {tgt tgt1 : TG} {dg dg1 : DG} {dt dt1 : DT} {de : DE} {vs vs1 : List Nat}
theorem lc2_ (Li : LI own W Ow O R wi di) (Lg : LG O vs R tgt dg) (hv : ∀ v, v ∈ vs → v ∉ O) (Li1 : LI false noW [] O R1 wi1 di1) (Lg1 : LG O vs1 R1 tgt1 dg1) (hv1 : ∀ v, v ∈ vs1 → v ∉ O) {σ : L2.St} {H : Hp} {Q : VK} (h : upF W Ow O (dLc2 di dg dt di1 dg1 dt1 de vs vs1) σ H Q) :
    tLc2 wi tgt (upT noW [] O dt) wi1 tgt1 (upT noW [] O dt1) (upE noW [] O de) vs vs1 σ H Q := by
  obtain ⟨g, δ, P, er, r, w, q, k⟩ := h
  refine Li g H σ δ _ _ _ r w q fun xs ⟨I, i0, turn, done⟩ H1 J s1 Y p hp => ?_
  have r1 := r.ext s1
  have op := r1.off_free hp
  have eb : ∀ {H'}, Ext g.ho H1 H' → Ext g.ho (if own = true then H1 else dropL (NM g O σ δ) H1) H' := fun {H'} s => by
    cases own with
    | true => exact s
    | false => exact (ext_drop r1.handNow).trans s
  have hbp : ∀ {zs : List V}, (if own = true then H1 else dropL (NM g O σ δ) H1) p = some (.lst zs) → False := fun {zs} z => by
    cases own with
    | true => rw [if_pos rfl, hp] at z; cases z
    | false => rw [if_neg (fun z => by cases z)] at z; rw [(dropM_some z).2] at hp; cases hp
  refine ⟨fun i m H' => m = xs.length - i ∧ i ≤ xs.length ∧ ∃ ys, Fill g O σ δ H1 p H' ys ∧ I i ys, ⟨xs.length, by simp, Nat.zero_le _, [], ⟨Ext.new hp, [], upd_same, .nil⟩, i0⟩, ?_⟩
  rintro i m H' ⟨rfl, hi, ys, f, pI⟩
  obtain ⟨yg, ystop⟩ := Y H' (eb f.ext) i
  cases ei : xs[i]? with
  | none =>
    have e : i = xs.length := Nat.le_antisymm hi (List.getElem?_eq_none_iff.mp ei)
    subst e
    obtain ⟨acc, ea, ra⟩ := f.ex
    exact .inl ⟨ystop ei, k _ (done _ pI) _ H' (s1.trans f.ext) (rF r.hc s1 ⟨p, acc, ys, rfl, rfl, hp, ea, ra⟩)⟩
  | some x =>
    obtain ⟨go, yl⟩ := yg x ei
    have il := (List.getElem?_eq_some_iff.mp ei).1
    refine .inr ⟨go, fun H2 => ∃ ys, Fill g O σ δ H1 p H2 ys ∧ I (i + 1) ys, fun H2 z => ⟨_, by omega, rfl, il, z⟩, fun v H2 y => ?_⟩
    obtain ⟨s2, rv⟩ := yl v H2 y
    obtain ⟨acc, ea, ra⟩ := f.ex
    have ea2 := s2.keep _ _ ea op
    have nmA : ∀ {a : Addr} {H2 : Hp}, NM { N := fun a => g.N a ∨ a = p, ho := g.ho, H0 := dropM (Mo O σ δ) H2 } O (L2.wipe σ vs) (wipeD δ vs) a ↔ NM g O σ δ a ∨ a = p := fun {a H2} => by
      show ((g.N a ∨ a = p) ∨ Mo O _ _ a) ↔ ((g.N a ∨ Mo O σ δ a) ∨ a = p)
      rw [mo_wipe hv]
      constructor
      · rintro ((z | z) | z)
        · exact .inl (.inl z)
        · exact .inr z
        · exact .inl (.inr z)
      · rintro ((z | z) | z)
        · exact .inl (.inl z)
        · exact .inr z
        · exact .inl (.inr z)
    have rN := r1.addN hp (f.ext.trans s2) ea2
    have rW := rN.wipe hv
    refine Lg _ H2 _ _ v x _ _ rW (rv _ fun a zs e z => ?_) (turn i ys x pI ei) fun δ3 σ3 r3 sub w3 q3 => ⟨w3.trans (wipe_wipe fun _ z => z), _, δ3, _, noX, r3, wok_no, q3, fun b pb H3 s3 => ?_⟩
    · rcases nmA.mp z with z | z
      · exact z
      · subst z
        exact (hbp e).elim
    · cases b with
      | false =>
        rw [if_neg (fun z => by cases z)] at pb ⊢
        exact ⟨ys, ⟨(f.ext.trans s2).trans s3, acc, s3.keep _ _ ea2 op, ra.ext (s2.trans s3)⟩, pb⟩
      | true =>
        rw [if_pos rfl] at pb ⊢
        have r33 := r3.ext s3
        refine Li1 _ H3 σ3 δ3 _ _ _ r33 wok_no pb fun zs ⟨I1, j0, turn1, done1⟩ H4 J1 s4 Y1 => ?_
        have f4 : Fill g O σ δ H1 p H4 ys := ⟨((f.ext.trans s2).trans s3).trans s4, acc, s4.keep _ _ (s3.keep _ _ ea2 op) op, ra.ext ((s2.trans s3).trans s4)⟩
        have r4 := r33.ext s4
        have m4 : ∀ a, Mo O σ3 δ3 a → NM g O σ δ a ∨ a = p := fun a z => nmA.mp ((sub a).mp (.inr z))
        have mback : ∀ a, Mo O σ δ a → g.N a ∨ a = p ∨ Mo O σ3 δ3 a := fun a z => by
          rcases (sub a).mpr (nmA.mpr (.inl (.inr z))) with (z | z) | z
          · exact .inl z
          · exact .inr (.inl z)
          · exact .inr (.inr z)
        -- the heap behind the filling so far
        refine ⟨fun j m H' => m = zs.length - j ∧ j ≤ zs.length ∧ ∃ ys1, Fill g O σ δ H1 p H' ys1 ∧ Ext g.ho (dropM (fun a => a = p) H4) H' ∧ I1 j ys1, ⟨zs.length, by simp, Nat.zero_le _, ys, f4, ⟨fun a o e _ => (dropM_some e).2, fun h q e _ => r4.handNow h q e⟩, j0⟩, ?_⟩
        rintro j m H5 ⟨rfl, hj, ys1, f5, x5, p1⟩
        obtain ⟨acc5, ea5, ra5⟩ := f5.ex
        have ea4 : H4 p = some (.lst acc) := s4.keep _ _ (s3.keep _ _ ea2 op) op
        have k5 : ∀ a o, a ≠ p → H4 a = some o → off g.ho a → H5 a = some o := fun a o ne e n => x5.keep a o ((dropM_out (M := fun a => a = p) ne).trans e) n
        have hand5 : ∀ h q, g.ho = some (h, q) → HandAt H5 h q := fun h q e => f5.ext.hand h q e (r1.handNow h q e)
        have r5 := r4.moved (.inr rfl) ea4 ea5 k5 hand5
        rw [if_neg (fun z => by cases z)] at Y1
        have up5 : Ext g.ho (dropL (NM { N := fun a => g.N a ∨ a = p, ho := g.ho, H0 := dropM (Mo O σ δ) H2 } O σ3 δ3) H4) H5 := dropL_ext (M := fun a => a = p) (fun a z => ⟨.inl (.inr z), acc, by rw [z]; exact ea4⟩) x5 hand5
        obtain ⟨yg1, ystop1⟩ := Y1 H5 up5 j
        cases ej : zs[j]? with
        | none =>
          have e : j = zs.length := Nat.le_antisymm hj (List.getElem?_eq_none_iff.mp ej)
          subst e
          exact .inl ⟨ystop1 ej, ys1, f5, done1 ys1 p1⟩
        | some z =>
          obtain ⟨go1, yl1⟩ := yg1 z ej
          have jl := (List.getElem?_eq_some_iff.mp ej).1
          refine .inr ⟨go1, fun H6 => ∃ ys1, Fill g O σ δ H1 p H6 ys1 ∧ Ext g.ho (dropM (fun a => a = p) H4) H6 ∧ I1 (j + 1) ys1, fun H6 q => ⟨_, by omega, rfl, jl, q⟩, fun v1 H6 y1 => ?_⟩
          obtain ⟨s6, rv1⟩ := yl1 v1 H6 y1
          have r6 := (r5.ext s6).wipe hv1
          have keepX : ∀ {H'}, Ext g.ho H5 H' → Ext g.ho (dropM (fun a => a = p) H4) H' := fun {H'} s => x5.trans s
          refine Lg1 _ H6 _ _ v1 z _ _ r6 (rv1 _ fun a zs e q => ?_) (turn1 j ys1 z p1 ej) fun δ7 σ7 r7 sub7 w7 q7 => ⟨w7.trans (wipe_wipe fun _ z => z), _, δ7, _, noX, r7, wok_no, q7, fun b pb7 H7 s7 => ?_⟩
          · rcases q with q | q
            · exact .inl q
            · exact .inr ((mo_wipe hv1 a).mp q)
          · cases b with
            | true =>
              rw [if_pos rfl] at pb7 ⊢
              refine ⟨_, δ7, _, noX, r7.ext s7, wok_no, pb7, fun y ⟨yl2, yI⟩ u H8 s8 ru => ?_⟩
              obtain ⟨acc2, e1, e2, f8⟩ := f5.step r1 hp ((s6.trans s7).trans s8) (ru.mono (fun _ _ e _ => e) fun a _ _ z => (sub7 a).mpr (by
                rcases z with (z | z) | z
                · exact .inl (.inl z)
                · rcases mback a z with z | z | z
                  · exact .inl (.inl z)
                  · exact .inl (.inr z)
                  · exact .inr ((mo_wipe hv1 a).mpr z)
                · exact .inl (.inr z))) yl2
              refine ⟨acc2, e1, e2, _, f8, ?_, yI⟩
              have x8 := keepX ((s6.trans s7).trans s8)
              exact ⟨fun a o e n => by rw [upd_ne (dropM_some e).1]; exact x8.keep a o e n, fun h q e _ => f8.ext.hand h q e (r1.handNow h q e)⟩
            | false =>
              rw [if_neg (fun z => by cases z)] at pb7 ⊢
              exact ⟨ys1, ⟨f5.ext.trans (s6.trans s7), acc5, (s6.trans s7).keep _ _ ea5 op, ra5.ext (s6.trans s7)⟩, keepX (s6.trans s7), pb7⟩
/-! ### as expressions and as statements -/
def dYes : DT := fun _ _ P => P true
theorem ts_nil {X : Cx} : PTs X [] (upT W Ow O dYes) := ⟨fun pins s σ H Q I ⟨g, δ, P, er, r, w, q, k⟩ => pts_nil.run pins s σ H Q I (k true q H .refl)⟩
theorem ts_one {X : Cx} {c : Expr} {t : DT} (h : PT X c (upT W Ow O t)) : PTs X [c] (upT W Ow O t) := pts_one h
variable {scope : Scope} {ownv : List (Str × Nat)} {pos spos : Pos}
theorem f_lc (hc : X.calm = true) (hN : X.N.Nodup) (hv : ∀ v, v ∈ ownv.map (·.2) → v ∉ O) (hi : PI X tg iter wi) (Li : LI own W Ow O R wi di) (ok : BlkOk X.N X.env.scope scope ownv) (Lg : LG O (ownv.map (·.2)) R tgt dg)
    (hg : ∀ (s : Shared) (H : Hp) (C : Addr) (cl : List (Str × Addr)) (fp : List Addr), PG (X.blk s H scope (compEnvC scope cl C X.env) fp) tg tgt) (ht : ∀ (s : Shared) (H : Hp) (C : Addr) (cl : List (Str × Addr)) (fp : List Addr), PTs (X.blk s H scope (compEnvC scope cl C X.env) fp) ifs (upT noW [] O dt))
    (he : ∀ (s : Shared) (H : Hp) (C : Addr) (cl : List (Str × Addr)) (fp : List Addr), PE (X.blk s H scope (compEnvC scope cl C X.env) fp) elt (upE noW [] O de)) (hs : ∀ x, foldedSetIterable iter X.env x = pure x := by intro _; rfl) :
    PE X (.ListComp elt [⟨tg, iter, ifs, 0⟩] scope pos) (upF W Ow O (dLc di dg dt de (ownv.map (·.2)))) := pe_weak (pe_lc hc hN hi ok hg ht he hs) fun σ H Q h => lc_ Li Lg hv h
theorem asgT_ {i : Nat} {t : TE} {x : DE} (ht : ∀ σ H Q, upF W Ow O x σ H Q → t σ H Q) (b : Bool) (hb : if b = true then i ∈ O else i ∉ O) {E : Ends} {σ : L2.St} {H : Hp} (h : upS W Ow O O (dAsg i x) E σ H) : tAsg t (gName i) E σ H := by
  refine ht σ H _ ?_
  obtain ⟨g, δ, p, er, u⟩ := h
  refine ⟨g, δ, _, er δ, u.rel, u.ws.at _ _, u.rd, fun y py v H' s z => ?_⟩
  cases b with
  | true =>
    obtain ⟨a, vs, ds, rfl, rfl, h1, h2, h3⟩ := z
    exact u.nx _ _ _ (u.rel.setO hb h1 s h2 h3) py
  | false => exact u.nx _ _ _ ((u.rel.ext s).set hb (z.rp u.rel.hc)) py
theorem s_setLc {i : Nat} {y : Str} {py : Pos} (b : Bool) (hb : if b = true then i ∈ O else i ∉ O) (hc : X.calm = true) (hN : X.N.Nodup) (hy : X.N[i]? = some y) (hyl : X.env.scope.names.lookup y = some .local)
    (hsw : swapsWith (.ListComp elt [⟨tg, iter, ifs, 0⟩] scope pos) (some (.Name y py)) spos.line X.env = pure true) (hv : ∀ v, v ∈ ownv.map (·.2) → v ∉ O) (hi : PI X tg iter wi) (Li : LI own W Ow O R wi di) (ok : BlkOk X.N X.env.scope scope ownv) (Lg : LG O (ownv.map (·.2)) R tgt dg)
    (hg : ∀ (s : Shared) (H : Hp) (C : Addr) (cl : List (Str × Addr)) (fp : List Addr), PG (X.blk s H scope (compEnvC scope cl C X.env) fp) tg tgt) (ht : ∀ (s : Shared) (H : Hp) (C : Addr) (cl : List (Str × Addr)) (fp : List Addr), PTs (X.blk s H scope (compEnvC scope cl C X.env) fp) ifs (upT noW [] O dt))
    (he : ∀ (s : Shared) (H : Hp) (C : Addr) (cl : List (Str × Addr)) (fp : List Addr), PE (X.blk s H scope (compEnvC scope cl C X.env) fp) elt (upE noW [] O de)) (hs : ∀ x, foldedSetIterable iter X.env x = pure x := by intro _; rfl) :
    PS X (.Assign [.Name y py] (.ListComp elt [⟨tg, iter, ifs, 0⟩] scope pos) spos) (upS W Ow O O (dAsg i (dLc di dg dt de (ownv.map (·.2))))) :=
  ps_weak (ps_setLc hc hN hy hyl hsw hi ok hg ht he hs) fun E σ H h => asgT_ (fun σ H Q h => lc_ Li Lg hv h) b hb h
theorem f_lc2 (hc : X.calm = true) (hN : X.N.Nodup) (hv : ∀ v, v ∈ ownv.map (·.2) → v ∉ O) (hv1 : ∀ v, v ∈ vs1 → v ∈ ownv.map (·.2)) (hi : PI X tg iter wi) (Li : LI own W Ow O R wi di) (ok : BlkOk X.N X.env.scope scope ownv) (Lg : LG O (ownv.map (·.2)) R tgt dg)
    (hg : ∀ (s : Shared) (H : Hp) (C : Addr) (cl : List (Str × Addr)) (fp : List Addr), PG (X.blk s H scope (compEnvC scope cl C X.env) fp) tg tgt) (ht : ∀ (s : Shared) (H : Hp) (C : Addr) (cl : List (Str × Addr)) (fp : List Addr), PTs (X.blk s H scope (compEnvC scope cl C X.env) fp) ifs (upT noW [] O dt))
    (hi1 : ∀ (s : Shared) (H : Hp) (C : Addr) (cl : List (Str × Addr)) (fp : List Addr), PI (X.blk s H scope (compEnvC scope cl C X.env) fp) tg1 iter1 wi1) (Li1 : LI false noW [] O R1 wi1 di1) (Lg1 : LG O vs1 R1 tgt1 dg1)
    (hg1 : ∀ (s : Shared) (H : Hp) (C : Addr) (cl : List (Str × Addr)) (fp : List Addr), PG (X.blk s H scope (compEnvC scope cl C X.env) fp) tg1 tgt1) (ht1 : ∀ (s : Shared) (H : Hp) (C : Addr) (cl : List (Str × Addr)) (fp : List Addr), PTs (X.blk s H scope (compEnvC scope cl C X.env) fp) ifs1 (upT noW [] O dt1))
    (he : ∀ (s : Shared) (H : Hp) (C : Addr) (cl : List (Str × Addr)) (fp : List Addr), PE (X.blk s H scope (compEnvC scope cl C X.env) fp) elt (upE noW [] O de)) (hs : ∀ x, foldedSetIterable iter X.env x = pure x := by intro _; rfl) (hs1 : ∀ env x, foldedSetIterable iter1 env x = pure x := by intro _ _; rfl) :
    PE X (.ListComp elt [⟨tg, iter, ifs, 0⟩, ⟨tg1, iter1, ifs1, 0⟩] scope pos) (upF W Ow O (dLc2 di dg dt di1 dg1 dt1 de (ownv.map (·.2)) vs1)) :=
  pe_weak (pe_lc2 hc hN hi ok hv1 hg ht hi1 hg1 ht1 he hs hs1) fun σ H Q h => lc2_ Li Lg hv Li1 Lg1 (fun v z => hv v (hv1 v z)) h
theorem s_setLc2 {i : Nat} {y : Str} {py : Pos} (b : Bool) (hb : if b = true then i ∈ O else i ∉ O) (hc : X.calm = true) (hN : X.N.Nodup) (hy : X.N[i]? = some y) (hyl : X.env.scope.names.lookup y = some .local)
    (hsw : swapsWith (.ListComp elt [⟨tg, iter, ifs, 0⟩, ⟨tg1, iter1, ifs1, 0⟩] scope pos) (some (.Name y py)) spos.line X.env = pure true) (hv : ∀ v, v ∈ ownv.map (·.2) → v ∉ O) (hv1 : ∀ v, v ∈ vs1 → v ∈ ownv.map (·.2)) (hi : PI X tg iter wi) (Li : LI own W Ow O R wi di) (ok : BlkOk X.N X.env.scope scope ownv) (Lg : LG O (ownv.map (·.2)) R tgt dg)
    (hg : ∀ (s : Shared) (H : Hp) (C : Addr) (cl : List (Str × Addr)) (fp : List Addr), PG (X.blk s H scope (compEnvC scope cl C X.env) fp) tg tgt) (ht : ∀ (s : Shared) (H : Hp) (C : Addr) (cl : List (Str × Addr)) (fp : List Addr), PTs (X.blk s H scope (compEnvC scope cl C X.env) fp) ifs (upT noW [] O dt))
    (hi1 : ∀ (s : Shared) (H : Hp) (C : Addr) (cl : List (Str × Addr)) (fp : List Addr), PI (X.blk s H scope (compEnvC scope cl C X.env) fp) tg1 iter1 wi1) (Li1 : LI false noW [] O R1 wi1 di1) (Lg1 : LG O vs1 R1 tgt1 dg1)
    (hg1 : ∀ (s : Shared) (H : Hp) (C : Addr) (cl : List (Str × Addr)) (fp : List Addr), PG (X.blk s H scope (compEnvC scope cl C X.env) fp) tg1 tgt1) (ht1 : ∀ (s : Shared) (H : Hp) (C : Addr) (cl : List (Str × Addr)) (fp : List Addr), PTs (X.blk s H scope (compEnvC scope cl C X.env) fp) ifs1 (upT noW [] O dt1))
    (he : ∀ (s : Shared) (H : Hp) (C : Addr) (cl : List (Str × Addr)) (fp : List Addr), PE (X.blk s H scope (compEnvC scope cl C X.env) fp) elt (upE noW [] O de)) (hs : ∀ x, foldedSetIterable iter X.env x = pure x := by intro _; rfl) (hs1 : ∀ env x, foldedSetIterable iter1 env x = pure x := by intro _ _; rfl) :
    PS X (.Assign [.Name y py] (.ListComp elt [⟨tg, iter, ifs, 0⟩, ⟨tg1, iter1, ifs1, 0⟩] scope pos) spos) (upS W Ow O O (dAsg i (dLc2 di dg dt di1 dg1 dt1 de (ownv.map (·.2)) vs1))) :=
  ps_weak (ps_setLc2 hc hN hy hyl hsw hi ok hv1 hg ht hi1 hg1 ht1 he hs hs1) fun E σ H h => asgT_ (fun σ H Q h => lc2_ Li Lg hv Li1 Lg1 (fun v z => hv v (hv1 v z)) h) b hb h
/-! ### while -/
def dWhile (t : DT) (b : DS) : DS := fun p er δ => ∃ I : Nat → DSt → Prop, (∃ m, I m δ) ∧ ∀ m δ', I m δ' → t (er δ') δ' fun c => if c = true then b { nx := fun δ2 => ∃ m', m' < m ∧ I m' δ2, rt := p.rt, bk := p.nx, ct := fun δ2 => ∃ m', m' < m ∧ I m' δ2 } er δ' else p.nx δ'
theorem s_while {c : Expr} {body : List Stmt} {t : DT} {b : DS} (hp : PassesOwn (model X.prog X.w) X.A X.env X.xe) (hc : PT X c (upT W Ow O t)) (hb : PSs X body (upS W Ow O O b)) : PS X (.While c body [] pos) (upS W Ow O O (dWhile t b)) :=
  ps_weak (ps_while hp hc hb) fun E σ H ⟨g, δ, p, er, u⟩ => by
    obtain ⟨I, ⟨m, i0⟩, turn⟩ := u.rd
    refine ⟨fun m σ H => ∃ δ', Rel g O H σ δ' ∧ I m δ', ⟨m, δ, u.rel, i0⟩, fun m σ' H' ⟨δ', r', pI⟩ => ⟨g, δ', _, er δ', r', u.ws.at _ _, turn m δ' pI, fun c pc H2 s2 => ?_⟩⟩
    cases c with
    | true =>
      rw [if_pos rfl] at pc ⊢
      exact ⟨fun σ3 H3 => ∃ δ3, Rel g O H3 σ3 δ3 ∧ ∃ m', m' < m ∧ I m' δ3, fun σ3 H3 ⟨δ3, r3, m', hm, p3⟩ => ⟨m', hm, δ3, r3, p3⟩, g, δ', _, er, { rel := r'.ext s2, ws := u.ws, rd := pc, nx := fun δ4 σ4 H4 r4 q4 => ⟨δ4, r4, q4⟩, rt := u.rt, bk := fun δ4 σ4 H4 r4 q4 => u.nx _ _ _ r4 q4, ct := fun δ4 σ4 H4 r4 q4 => ⟨δ4, r4, q4⟩ }⟩
    | false =>
      rw [if_neg (fun z => by cases z)] at pc ⊢
      exact u.nx _ _ _ (r'.ext s2) pc
end
end DL
set_option Elab.async false
set_option linter.all false
set_option maxRecDepth 100000
set_option maxHeartbeats 4000000
namespace DL
open PySem PySem.Spec PyProof.Rows L2 Gen
/-! ### defs by data -/
abbrev wE (E : XK) : WX := fun cls d _ H => E cls d H
abbrev w0 : WX := fun _ _ _ _ => False
def dstart (N : List Str) (ds : List D) : DSt := ds.map some ++ List.replicate (N.length - ds.length) none
theorem start_get {α : Type} {l : List α} {n i : Nat} {y : α} (h : (l.map some ++ List.replicate n none)[i]? = some (some y)) : i < l.length ∧ l[i]? = some y := by
  by_cases hi : i < l.length
  · rw [List.getElem?_append_left (by rw [List.length_map]; exact hi), List.getElem?_map] at h
    refine ⟨hi, ?_⟩
    cases q : l[i]? with
    | none => rw [q] at h; cases h
    | some z => rw [q] at h; cases h; rfl
  · rw [List.getElem?_append_right (by rw [List.length_map]; omega)] at h
    rw [List.getElem?_replicate] at h
    split at h <;> cases h
theorem start_at {α : Type} {l : List α} {n i : Nat} {y : α} (h : l[i]? = some y) : (l.map some ++ List.replicate n none)[i]? = some (some y) := by
  have hi := (List.getElem?_eq_some_iff.mp h).1
  rw [List.getElem?_append_left (by rw [List.length_map]; exact hi), List.getElem?_map, h]
  rfl
theorem rel_start {N : Addr → Prop} {ho : Ho} {H : Hp} {vs : List V} {ds : List D} {O : List Nat} {Nm : List Str} (na : ∀ a, N a → H a ≠ none) (hh : ∀ h q, ho = some (h, q) → HandAt H h q) (r : RpA ho H N vs ds) (hO : ∀ i, i ∈ O → ds.length ≤ i) :
    Rel { N := N, ho := ho, H0 := H } O H (L2.start Nm vs) (dstart Nm ds) := by
  have nm : ∀ a, Mo O (L2.start Nm vs) (dstart Nm ds) a → False := fun a ⟨i, d, hi, _, h2⟩ => absurd (start_get h2).1 (Nat.not_lt.mpr (hO i hi))
  refine ⟨?_, .refl, hh, na, fun i d n h => ?_, fun i d n h => ?_, fun i j a d e hi hj _ _ h3 _ => ?_⟩
  · unfold L2.start dstart
    rw [List.length_append, List.length_append, List.length_map, List.length_map, List.length_replicate, List.length_replicate, r.length]
  · obtain ⟨v, h1, h2⟩ := r.getD (start_get h).2
    exact ⟨v, start_at h1, h2.mono (fun _ _ e _ => e) fun a _ _ z => z.elim id fun z => (nm a z).elim⟩
  · exact absurd (start_get h).1 (Nat.not_lt.mpr (hO i n))
  · exact absurd (start_get h3).1 (Nat.not_lt.mpr (hO i hi))
theorem ups_start {s : SpD} {d : DS} {O Oe : List Nat} {Nm : List Str} {vs : List V} {H : Hp} {Q : VK} {E : XK} (h : spOf s vs H Q E) (hO : ∀ i, i ∈ O → vs.length ≤ i)
    (hd : ∀ ds P er, s ds P er → d { nx := fun _ => P .non, rt := P } (fun _ => er) (dstart Nm ds)) : upS (wE E) [] O Oe d { nx := fun _ H' => Q .non H', rt := Q } (L2.start Nm vs) H := by
  obtain ⟨N, ho, ds, P, er, na, hh, r, hs, k, ke⟩ := h
  refine ⟨_, _, _, _, { rel := rel_start na hh r (fun i hi => by rw [← r.length]; exact hO i hi), ws := ?_, rd := hd _ _ _ hs, nx := ?_, rt := ?_, bk := ?_, ct := ?_ }⟩
  · intro δ C fs he σ dd H' rl x
    exact ke C fs he dd H' rl.base x
  · intro δ' σ' H' rl p
    exact k _ p _ H' rl.base .non
  · intro y v H' e rp p
    exact k _ p _ H' e rp
  · intro _ _ _ _ z
    exact z.elim
  · intro _ _ _ _ z
    exact z.elim
section
variable {P : Program} {w : World} {K : PySem.W.Frag} {mg : Str → Option Value} {base : Heap}
theorem spOf_len {s : SpD} {n : Nat} (len : ∀ ds P er, s ds P er → ds.length = n) : ∀ vs H Q E, spOf s vs H Q E → vs.length = n := fun vs H Q E ⟨_, _, _, _, _, _, _, r, hs, _, _⟩ => r.length.trans (len _ _ _ hs)
/-- a def's promise, by data: O are the slots that own their lists -/
theorem fn_d {x qual : Str} {st : Stmt} {f : Addr} {fd : FuncData} {Nm ps : List Str} {k : Nat} {s : SpD} (F : Fun K x qual st f fd) (S : FnScope Nm ps (defScope st)) (O : List Nat) {Oe : List Nat} (d : DS)
    (len : ∀ ds P er, s ds P er → ds.length = ps.length) (hO : ∀ i, i ∈ O → ps.length ≤ i)
    (body : ∀ (cdv : Value) (A : Around) (outer : List Env) (sh : Shared) (H : Hp) (E : XK), Room k (A.deeper (envOfC qual (defScope st) sh.heap.objs.size f cdv)) →
      PSs (cxOf (L2.CX P w) P w K mg base Nm qual (defScope st) f cdv A outer sh H E) (defBody st) (upS (wE E) [] O Oe d))
    (hd : ∀ ds P er, s ds P er → d { nx := fun _ => P .non, rt := P } (fun _ => er) (dstart Nm ds)) : FnOk P w K mg base (L2.CX P w) (k + 1) f fd ps (spOf s) :=
  F.okX S (spOf_len len) fun cdv A outer sh H vs Q E hr hs => ⟨_, body cdv A outer sh H E hr, ups_start hs (fun i hi => by rw [spOf_len len _ _ _ _ hs]; exact hO i hi) hd⟩
/-- .. a def with defaults -/
theorem fnD_d {x qual : Str} {params : Arguments} {bd : List Stmt} {scope : Scope} {dvs : List V} {kws : List (Str × V)} {f : Addr} {fd : FuncData} {Nm ps : List Str} {k : Nat} {s : SpD} (F : FunD K x qual params bd scope dvs kws f fd) (S : FnScope Nm ps scope) (O : List Nat) {Oe : List Nat} (d : DS)
    (len : ∀ ds P er, s ds P er → ds.length = ps.length) (hO : ∀ i, i ∈ O → ps.length ≤ i)
    (body : ∀ (cdv : Value) (A : Around) (outer : List Env) (sh : Shared) (H : Hp) (E : XK), Room k (A.deeper (envOfC qual scope sh.heap.objs.size f cdv)) →
      PSs (cxOf (L2.CX P w) P w K mg base Nm qual scope f cdv A outer sh H E) bd (upS (wE E) [] O Oe d))
    (hd : ∀ ds P er, s ds P er → d { nx := fun _ => P .non, rt := P } (fun _ => er) (dstart Nm ds)) : FnOk P w K mg base (L2.CX P w) (k + 1) f fd ps (spOf s) :=
  F.ok S (spOf_len len) fun cdv A outer sh H vs Q E hr hs => ⟨_, body cdv A outer sh H E hr, ups_start hs (fun i hi => by rw [spOf_len len _ _ _ _ hs]; exact hO i hi) hd⟩
/-- .. for calls in a suite that raises -/
theorem fnN_d {x qual : Str} {st : Stmt} {f : Addr} {fd : FuncData} {Nm ps : List Str} {k : Nat} {s : SpD} (F : Fun K x qual st f fd) (S : FnScope Nm ps (defScope st)) (O : List Nat) {Oe : List Nat} (d : DS)
    (len : ∀ ds P er, s ds P er → ds.length = ps.length) (hO : ∀ i, i ∈ O → ps.length ≤ i)
    (body : ∀ (cdv : Value) (A : Around) (outer : List Env) (sh : Shared) (H : Hp) (E : XK), Room k (A.deeper (envOfC qual (defScope st) sh.heap.objs.size f cdv)) →
      PSs (cxOf (L2N.CX P w) P w K mg base Nm qual (defScope st) f cdv A outer sh H E) (defBody st) (upS (wE E) [] O Oe d))
    (hd : ∀ ds P er, s ds P er → d { nx := fun _ => P .non, rt := P } (fun _ => er) (dstart Nm ds)) : FnOk P w K mg base (L2N.CX P w) (k + 1) f fd ps (spOf s) := by
  obtain ⟨oc, od, kV, doc, pm, an, cdv, ct, osl, rfl, lk, hcd⟩ := F.ex
  exact fn_of lk hcd S (spOf_len len) fun A outer sh H vs Q E hr hs => ⟨_, body cdv A outer sh H E hr, ups_start hs (fun i hi => by rw [spOf_len len _ _ _ _ hs]; exact hO i hi) hd⟩
end
/-! ### raise -/
section
variable {X : Cx} {W : WX} {Ow O : List Nat} {e : Expr} {es : List Expr} {pos p ppos : Pos} {xs : DAr}
/-- raise C(..): the fields as the __init__ lays them -/
def dRaise (C : Addr) (fl : List Str) (xs : DAr) : DS := fun _ er δ => xs (er δ) δ fun ys => ys.length = fl.length ∧ er δ C (some (fl.zip ys).reverse)
def dRaise0 (C : Addr) : DS := fun _ er δ => er δ C none
theorem s_raise0 {C : Addr} (hO : ∀ i, i ∈ Ow → i ∈ O) (hc : X.calm = true) (tk : L2.Takes X W) (hm : L2.PMk X e (fun _ H Q => Q (.ref C) none H)) : PS X (.Raise (some e) none pos) (upS W Ow O O (dRaise0 C)) :=
  ps_weak (L2.ps_raise hc tk hm) fun E σ H ⟨g, δ, p, er, u⟩ => u.ws.at σ δ C none u.rd none H (u.rel.less hO) rfl
theorem xat1 {ho : Ho} {N : Addr → Prop} {H : Hp} {d : Addr} {f : Str} {v : V} {y : D} (hd : H d = none) (r : Rp ho H N v y) (n : y.noL = true) : XAt ho (upd H d (.xd [(f, v)])) (some d) (some [(f, y)]) :=
  ⟨by simp [D.noLF, n], d, _, rfl, upd_same, .cons ((r.noL n).ext (Ext.new hd)) .nil⟩
theorem xat2 {ho : Ho} {N : Addr → Prop} {H : Hp} {d : Addr} {f g : Str} {v u : V} {y z : D} (hd : H d = none) (r : Rp ho H N v y) (n : y.noL = true) (r2 : Rp ho H N u z) (n2 : z.noL = true) : XAt ho (upd H d (.xd [(g, u), (f, v)])) (some d) (some [(g, z), (f, y)]) :=
  ⟨by simp [D.noLF, n, n2], d, _, rfl, upd_same, .cons ((r2.noL n2).ext (Ext.new hd)) (.cons ((r.noL n).ext (Ext.new hd)) .nil)⟩
def dRaiseL (C : Addr) (fl : List Str) (xs : DAr) : DS := fun _ er δ => xs (er δ) δ fun ys => (ys.length = fl.length ∧ D.noLA ys = true) ∧ er δ C (some (fl.zip ys).reverse)
theorem s_raise1 {C : Addr} {f : Str} {st : Stmt} (hO : ∀ i, i ∈ Ow → i ∈ O) (T : OexC X.K C) (n1 : PySem.W.findIn X.K (.ref C) f = some none) (h : PS X st (fun _ σ H => tMkO C (spI1 X.K C f) [] (upA W Ow O xs) σ H fun cls d H' => W cls d σ H')) :
    PS X st (upS W Ow O O (dRaiseL C [f] xs)) :=
  ps_weak h fun E σ H ⟨g, δ, p, er, u⟩ =>
    ⟨g, δ, _, er δ, u.rel, u.ws.at _ _, u.rd, fun ys ⟨⟨py, pn⟩, px⟩ vs H1 s1 r1 => by
      cases r1 with
      | nil => simp at py
      | @cons v y vs ys q1 q2 =>
      cases q2 with
      | cons _ _ => simp at py
      | nil =>
      simp [D.noLA] at pn
      exact raise1 (Q := fun cls d H' => W cls d σ H') T n1 fun d hd => u.ws.at σ δ C _ px (some d) _ (((u.rel.ext s1).ext (Ext.new hd)).less hO) (xat1 hd q1 pn)⟩
theorem s_raise2 {C : Addr} {f f2 : Str} {st : Stmt} (hO : ∀ i, i ∈ Ow → i ∈ O) (T : OexC X.K C) (n1 : PySem.W.findIn X.K (.ref C) f = some none) (n2 : PySem.W.findIn X.K (.ref C) f2 = some none)
    (h : PS X st (fun _ σ H => tMkO C (spI2 X.K C f f2) [] (upA W Ow O xs) σ H fun cls d H' => W cls d σ H')) :
    PS X st (upS W Ow O O (dRaiseL C [f, f2] xs)) :=
  ps_weak h fun E σ H ⟨g, δ, p, er, u⟩ =>
    ⟨g, δ, _, er δ, u.rel, u.ws.at _ _, u.rd, fun ys ⟨⟨py, pn⟩, px⟩ vs H1 s1 r1 => by
      cases r1 with
      | nil => simp at py
      | @cons v y vs ys q1 q2 =>
      cases q2 with
      | nil => simp at py
      | @cons v2 y2 vs ys q2 q3 =>
      cases q3 with
      | cons _ _ => simp at py
      | nil =>
      simp [D.noLA] at pn
      exact raise2 (Q := fun cls d H' => W cls d σ H') T n1 n2 fun d hd => u.ws.at σ δ C _ px (some d) _ (((u.rel.ext s1).ext (Ext.new hd)).less hO) (xat2 hd q1 pn.1 q2 pn.2)⟩
end
end DL
set_option Elab.async false
set_option linter.all false
set_option maxRecDepth 100000
set_option maxHeartbeats 4000000
namespace DL
open PySem PySem.Spec PyProof.Rows L2 Gen
/-! ### own errors with an __init__, where the handled thing's context counts -/
section
variable {X : Cx}
theorem pmk_oexN {CX : CXT} {x : Str} {e : Expr} {es : List Expr} {ta : TA} {p pos : Pos} {C fI : Addr} {k : Nat} {fd : FuncData} {ps : List Str} {sp : Sp} (T : OexC X.K C) (iC : PySem.W.findIn X.K (.ref C) "__init__" = some (some (.ref fI))) (tI : PySem.W.typeIn X.K (.ref fI) = some (.type "function"))
    (F1 : FnOk X.prog X.w X.K X.mg X.base CX k fI fd ps sp) (hr : Room (k + 1) X.A) (hb : L2.Binds X.K fd ps []) (hx : Passes CX X (fun _ _ _ => False)) (hg : Gl X x) (hm : X.mg x = some (.ref C)) (ha : PA X (e :: es) ta)
    (hdb : (x == ("__debug__" : Str)) = false := by decide) (he : starEach (e :: es) X.env = (false, eval e X.env) :: starEach es X.env := by rfl) (hpl : (backTo pos (starEach es X.env)).any (·.1) = false := by rfl) :
    L2N.PMk X (.Call (.Name x p) (e :: es) [] pos) (tMkO C sp [] ta) := by
  intro pins s σ H Q I h
  obtain ⟨nm, q, N, bs, bm, sn, sub, ab, col, dd, k0, k1, k2, k3, k5, hC, hbm⟩ := T.cls
  refine wpAny_Call_Name_kw (ld_glob I hg hm (PySem.W.callWith_K (h₀ := X.base) I.ok.mod.kin T.kC (thn (ha.run pos pins s σ H _ I h) fun us s1 ⟨vs, H1, I1, r1, hz, q1⟩ => ⟨I1.kIn, ?_⟩) he hpl) hdb)
  show wpAny _ _ (call (.ref C) us) _ _ _
  obtain ⟨hp, g, dr, tk, os⟩ := s1
  -- where the new thing stands
  generalize hA : hp.objs.size + 1 = A
  have le : hp.objs.size ≤ A := by omega
  have hq := q1 A (I1.hok.fresh le)
  rw [List.append_nil] at hq
  have old : ∀ b o, hp.get? b = some o → ((hp.push (PySem.W.kdv_tup us)).push (PySem.HandSPX.excO C hp.objs.size)).get? b = some o := fun b o e => Heap.get?_push_of_some _ (Heap.get?_push_of_some _ e)
  have own : ((hp.push (PySem.W.kdv_tup us)).push (PySem.HandSPX.excO C hp.objs.size)).get? A = some (PySem.HandSPX.excO C hp.objs.size) := by subst hA; heap_get
  have I2 := I1.laid (t' := tk) (a := A) (o := exo A C none) old le (exo_ok own)
  have r2 : Vals (V.ref A :: vs) (Value.ref A :: us) := .cons rfl r1
  have len : (Value.ref A :: us).length = ps.length := (r2.length.symm.trans (F1.len _ _ _ _ hq))
  have b2 := hb _ (Value.ref A :: us) I2.kIn (by rw [List.append_nil]; exact len)
  rw [List.append_nil] at b2
  subst hA
  refine wpAny_call (PySem.HandSPX.call_own F.excBase_ValueError (fun Y => PySem.HandSPX.refsVE_contains Y bm hbm) (I1.kIn _ _ hC) (PySem.W.looks_findIn I1.kIn iC) (fun self => PySem.W.bind_fn I1.kIn self tI) (by rw [← Paired.length r1, sizeLine_eq]; omega)
    (codeAny_mono (F1.run _ X.stack _ _ ⟨Value.ref (hp.objs.size + 1) :: us, []⟩ _ _ _ (fun _ _ _ => False) (hr.make C us []) (I2.env0.make C us []) b2 r2 hq) ?_))
  rintro (er | fl) s' hq'
  · exact hx pins σ _ _ er s' I2 hq'
  · cases fl with
    | ret u =>
      obtain ⟨v, H2, os2, bare2, un2, hok2, rv, rfl, d, fs, ea, ed, hd1, q2⟩ := hq'
      obtain ⟨h2, g2, d2, t2, os'⟩ := s'
      obtain ⟨t0, G, J, kG, ge, hoe, na⟩ := mk_end0 (d2 := d2) (t2 := t2) I1 le old un2 hok2 os2 bare2 ea ed hd1
      exact ⟨rv, hp.objs.size + 1, _, _, ⟨G, g2, d2, t2, os'⟩, _, .ref C, some d, rfl, J, kG, ge, hoe, ⟨rfl, rfl, fun vs hv => by cases hv; rfl⟩, rfl, rfl, na, rfl, bare2, raises_own T.exC T.tyC, q2⟩
    | next => exact hq'.elim
    | brk => exact hq'.elim
    | cont => exact hq'.elim
end
/-! ### a def that lets out less lets out no more -/
theorem flyZ_imp {B h : Heap} {l : List Env} {a : Addr} {Z Z' : Obj → Prop} (z : ∀ o, Z o → Z' o) (x : HandSPX.FlyingZ B l a Z h) : HandSPX.FlyingZ B l a Z' h := L2H.flyingZ_imp z x
theorem cx_of_N {P : Program} {w : World} {outer : List Env} {H : Hp} {s : Shared} {E : XK} {u : Value} {s' : Shared} (h : L2N.CX P w outer H s E u s') : L2.CX P w outer H s E u s' := by
  obtain ⟨a, B, H', cls, d, e, fl, hok, ub, na, os, ag, q⟩ := h
  exact ⟨a, B, H', cls, d, e, flyZ_imp (fun _ z => z.zc) fl, hok, ub, na, os, ag, q⟩
theorem fn_of_N {P : Program} {w : World} {K : PySem.W.Frag} {mg : Str → Option Value} {base : Heap} {k : Nat} {f : Addr} {fd : FuncData} {ps : List Str} {sp : Sp} (F : FnOk P w K mg base (L2N.CX P w) k f fd ps sp) : FnOk P w K mg base (L2.CX P w) k f fd ps sp :=
  ⟨F.len, fun A outer s H args us vs Q E hr he hb hv hs => codeAny_mono (F.run A outer s H args us vs Q E hr he hb hv hs) fun r s' h => by
    cases r with
    | ok fl => cases fl <;> exact h
    | error e => exact cx_of_N h⟩
theorem fn_of_0 {P : Program} {w : World} {K : PySem.W.Frag} {mg : Str → Option Value} {base : Heap} {CX : CXT} {k : Nat} {f : Addr} {fd : FuncData} {ps : List Str} {sp : Sp} (F : FnOk P w K mg base CX0 k f fd ps sp) : FnOk P w K mg base CX k f fd ps sp :=
  ⟨F.len, fun A outer s H args us vs Q E hr he hb hv hs => codeAny_mono (F.run A outer s H args us vs Q E hr he hb hv hs) fun r s' h => by
    cases r with
    | ok fl => cases fl <;> exact h
    | error e => exact h.elim⟩
/-- what calls of defs that let nothing out ask -/
theorem pass0A {X : Cx} {E : L2.St → XK} : ∀ σ, PassesAt CX0 X σ (E σ) := fun _ _ _ _ _ _ _ z => z.elim
section
variable {P : Program} {w : World} {K : PySem.W.Frag} {mg : Str → Option Value} {base : Heap}
/-- a def that lets nothing out -/
theorem fn0_d {x qual : Str} {st : Stmt} {f : Addr} {fd : FuncData} {Nm ps : List Str} {k : Nat} {s : SpD} (F : Fun K x qual st f fd) (S : FnScope Nm ps (defScope st)) (O : List Nat) {Oe : List Nat} (d : DS)
    (len : ∀ ds P er, s ds P er → ds.length = ps.length) (hO : ∀ i, i ∈ O → ps.length ≤ i)
    (body : ∀ (cdv : Value) (A : Around) (outer : List Env) (sh : Shared) (H : Hp) (E : XK), Room k (A.deeper (envOfC qual (defScope st) sh.heap.objs.size f cdv)) →
      PSs (cxOf CX0 P w K mg base Nm qual (defScope st) f cdv A outer sh H E).nox (defBody st) (upS w0 [] O Oe d))
    (hd : ∀ ds P, s ds P noX → d { nx := fun _ => P .non, rt := P } (fun _ => noX) (dstart Nm ds))
    (hn : ∀ ds P er, s ds P er → s ds P noX) : FnOk P w K mg base CX0 (k + 1) f fd ps (spOf s) :=
  F.ok S (spOf_len len) fun cdv A outer sh H vs Q E hr hs => ⟨_, body cdv A outer sh H E hr, by
    obtain ⟨N, ho, ds, P, er, na, hh, r, hs, k, ke⟩ := hs
    exact ⟨_, _, _, _, { rel := rel_start na hh r (fun i hi => by rw [len _ _ _ hs]; exact hO i hi), ws := fun δ C fs he => (he : False).elim, rd := hd _ _ (hn _ _ _ hs), nx := fun δ' σ' H' rl p => k _ p _ H' rl.base .non, rt := fun y v H' e rp p => k _ p _ H' e rp, bk := fun _ _ _ _ z => z.elim, ct := fun _ _ _ _ z => z.elim }⟩⟩
theorem fnD0_d {x qual : Str} {params : Arguments} {bd : List Stmt} {scope : Scope} {dvs : List V} {kws : List (Str × V)} {f : Addr} {fd : FuncData} {Nm ps : List Str} {k : Nat} {s : SpD} (F : FunD K x qual params bd scope dvs kws f fd) (S : FnScope Nm ps scope) (O : List Nat) {Oe : List Nat} (d : DS)
    (len : ∀ ds P er, s ds P er → ds.length = ps.length) (hO : ∀ i, i ∈ O → ps.length ≤ i)
    (body : ∀ (cdv : Value) (A : Around) (outer : List Env) (sh : Shared) (H : Hp) (E : XK), Room k (A.deeper (envOfC qual scope sh.heap.objs.size f cdv)) →
      PSs (cxOf CX0 P w K mg base Nm qual scope f cdv A outer sh H E).nox bd (upS w0 [] O Oe d))
    (hd : ∀ ds P, s ds P noX → d { nx := fun _ => P .non, rt := P } (fun _ => noX) (dstart Nm ds))
    (hn : ∀ ds P er, s ds P er → s ds P noX) : FnOk P w K mg base CX0 (k + 1) f fd ps (spOf s) :=
  F.ok S (spOf_len len) fun cdv A outer sh H vs Q E hr hs => ⟨_, (body cdv A outer sh H E hr).nox, by
    obtain ⟨N, ho, ds, P, er, na, hh, r, hs, k, ke⟩ := hs
    exact ⟨_, _, _, _, { rel := rel_start na hh r (fun i hi => by rw [len _ _ _ hs]; exact hO i hi), ws := fun δ C fs he => (he : False).elim, rd := hd _ _ (hn _ _ _ hs), nx := fun δ' σ' H' rl p => k _ p _ H' rl.base .non, rt := fun y v H' e rp p => k _ p _ H' e rp, bk := fun _ _ _ _ z => z.elim, ct := fun _ _ _ _ z => z.elim }⟩⟩
end
/-! ### try -/
abbrev SD := Addr → Addr → Option Addr → DS
def De.off (p : De) (i : Nat) : De := { nx := fun δ => p.nx (δ.set i none), rt := p.rt, bk := fun δ => p.bk (δ.set i none), ct := fun δ => p.ct (δ.set i none) }
def exD (a C : Addr) (dd : Option Addr) : Option (List (Str × D)) → D
  | none => .raw (.ref a)
  | some gs => .exc a (.ref C) dd C gs
def suiteD (p : De) (er : DXS) (o : Option Nat) (t : SD) (C : Addr) (fs : Option (List (Str × D))) (δ : DSt) : Prop :=
  match o with
  | none => ∀ a dd, t a C dd p er δ
  | some i => ∀ a dd, t a C dd (p.off i) er (δ.set i (some (exD a C dd fs)))
/-- what the clauses say of a raised thing -/
def xMix (K : PySem.W.Frag) (p : De) (er : DXS) : List (Addr × Option Nat × SD) → DXS
  | [] => er
  | (Ci, o, t) :: rest => fun δ C fs => ∃ yes, PySem.W.exmOne K (.ref C) (.ref Ci) = some yes ∧ (yes = true → suiteD p er o t C fs δ) ∧ (yes = false → xMix K p er rest δ C fs)
def dMix (K : PySem.W.Frag) (tb : DS) (l : List (Addr × Option Nat × SD)) : DS := fun p er δ => tb p (xMix K p er l) δ
section
variable {X : Cx} {W : WX} {Ow O Oe : List Nat} {K : PySem.W.Frag} {p : De} {er : DXS} {g : G} {E : Ends}
structure EndsS (O : List Nat) (E : Ends) (g : G) (p : De) : Prop where
  nx : ∀ δ' σ' H', Rel g O H' σ' δ' → p.nx δ' → E.nx σ' H'
  rt : ∀ y v H', Ext g.ho g.H0 H' → Rp g.ho H' g.N v y → p.rt y → E.rt v H'
  bk : ∀ δ' σ' H', Rel g O H' σ' δ' → p.bk δ' → E.bk σ' H'
  ct : ∀ δ' σ' H', Rel g O H' σ' δ' → p.ct δ' → E.ct σ' H'
theorem EndsS.off {i : Nat} (u : EndsS O E g p) (hi : i ∉ O) : EndsS O (Gen.Ends.off E i) g (p.off i) :=
  ⟨fun _ _ _ r q => u.nx _ _ _ (r.forget hi) q, fun y v H' e r q => u.rt y v H' e r q, fun _ _ _ r q => u.bk _ _ _ (r.forget hi) q, fun _ _ _ r q => u.ct _ _ _ (r.forget hi) q⟩
/-- what a suite reads, as a suite's reading -/
def suR (W : WX) (Ow O : List Nat) (t : SD) : SU := fun a k d E σ H => ∃ C, k = .ref C ∧ upS W Ow O O (t a C d) E σ H
theorem exD_rp {ho : Ho} {H : Hp} {N : Addr → Prop} {a C : Addr} {dd : Option Addr} {fs : Option (List (Str × D))} (x : XAt ho H dd fs) (c : Hc ho N H) : Rp ho H N (.ref a) (exD a C dd fs) := by
  cases fs with
  | none => exact .raw _
  | some gs =>
    obtain ⟨nl, b, vs, rfl, e, r⟩ := x
    refine .exc rfl (fun h q eh z => ?_) e (r.noL nl)
    subst z
    obtain ⟨cs, i, r', t, h1, _, _⟩ := (c.hand _ _ eh).ex
    rw [e] at h1
    cases h1
theorem ws_mix {l : List (Addr × Option Nat × SD)} {lt : List (Value × Option Nat × SU)} {Wo : WX}
    (hl : lt = l.map fun x => (Value.ref x.1, x.2.1, suR Wo Ow O x.2.2)) (hi : ∀ x, x ∈ l → ∀ i, x.2.1 = some i → i ∉ O) (hOw : ∀ i, i ∈ Ow → i ∈ O)
    (ws : WS Wo Ow g er) (u : EndsS O E g p) : WS (wMix K Wo E lt) O g (xMix K p er l) := by
  subst hl
  induction l with
  | nil => exact fun δ C fs h σ dd H r x => ws δ C fs h σ dd H (r.less hOw) x
  | cons x l ih =>
    obtain ⟨Ci, o, t⟩ := x
    intro δ C fs ⟨yes, h1, h2, h3⟩ σ dd H r x
    refine ⟨yes, h1, fun ey a ha => ?_, fun ey => ih (fun y hy => hi y (List.mem_cons_of_mem _ hy)) δ C fs (h3 ey) σ dd H r x⟩
    have h2 := h2 ey
    cases o with
    | none => exact ⟨C, rfl, g, δ, p, er, { rel := r, ws := ws, rd := h2 a dd, nx := u.nx, rt := u.rt, bk := u.bk, ct := u.ct }⟩
    | some i =>
      have ni := hi _ List.mem_cons_self i rfl
      have u' := u.off ni
      exact ⟨C, rfl, g, _, _, er, { rel := r.set ni (exD_rp x r.hc), ws := ws, rd := h2 a dd, nx := u'.nx, rt := u'.rt, bk := u'.bk, ct := u'.ct }⟩
end
end DL
set_option Elab.async false
set_option linter.all false
set_option maxRecDepth 100000
set_option maxHeartbeats 4000000
namespace DL
open PySem PySem.Spec PyProof.Rows L2 Gen
section
variable {X : Cx} {W : WX} {Ow O Oe : List Nat} {K : PySem.W.Frag} {pos pos' np : Pos}
/-- the clauses, as their readings -/
abbrev lMix (W : WX) (Ow O : List Nat) (l : List (Addr × Option Nat × SD)) : List (Value × Option Nat × SU) := l.map fun x => (Value.ref x.1, x.2.1, suR W Ow O x.2.2)
theorem s_try {body : List Stmt} {h1 : ExceptHandler} {hs : List ExceptHandler} {l : List (Addr × Option Nat × SD)} {tb : DS} (hK : X.K = K) (est : X.stack = X.env :: X.outer) (efr : X.env.frame = some X.env.locals) (tkO : L2.Takes X W) (hOw : ∀ i, i ∈ Ow → i ∈ O)
    (hi : ∀ x, x ∈ l → ∀ i, x.2.1 = some i → i ∉ O)
    (hb : ∀ (W' : WX) (pn : List (Addr × Obj)) (xe : Value → Shared → Prop), L2.Takes (X.tr pn xe) W' → PassesOwn (model X.prog X.w) X.A X.env xe → PSs (X.tr pn xe) body (upS W' O O O tb))
    (hh : HdsX X (h1 :: hs) (lMix W Ow O l)) : PS X (.Try body (h1 :: hs) [] [] pos) (upS W Ow O O (dMix K tb l)) :=
  ps_weak (ps_try_mix est efr tkO hb hh) fun E σ H ⟨g, δ, p, er, u⟩ => by
    subst hK
    exact ⟨g, δ, p, _, { rel := u.rel, ws := ws_mix rfl hi hOw u.ws ⟨u.nx, u.rt, u.bk, u.ct⟩, rd := u.rd, nx := u.nx, rt := u.rt, bk := u.bk, ct := u.ct }⟩
/-- a suite -/
theorem su_of {a : Addr} {oe : Obj} {k : Value} {d : Option Addr} {pn : List (Addr × Obj)} {ss : List Stmt} {t : SD} (hz : Zc k d oe) (h : ∀ C : Addr, Zc (.ref C) d oe → PSs (X.suite a ((a, oe) :: pn)) ss (upS W Ow O O (t a C d))) : PSs (X.suite a ((a, oe) :: pn)) ss (suR W Ow O t a k d) :=
  ⟨fun pins s σ H E I q => by
    obtain ⟨C, rfl, up⟩ := q
    exact (h C hz).run pins s σ H E I up⟩
/-- e.f in a suite -/
def dXf (a C Cb : Addr) (d : Option Addr) (n : Str) (x : DE) : DE := fun er δ P => x er δ fun y => ∃ fs z, y = .exc a (.ref C) d C fs ∧ C = Cb ∧ fs.lookup n = some z ∧ P z
theorem d_xf {a C Cb : Addr} {oe : Obj} {d : Option Addr} {pn : List (Addr × Obj)} {e : Expr} {n : Str} {x : DE} (T : XfC X.K Cb) (hno : PySem.W.findIn X.K (.ref Cb) n = some none) (hz : Zc (.ref C) d oe) (hf : ∃ vs, oe.data = .fields vs)
    (h : PE (X.suite a ((a, oe) :: pn)) e (upE W Ow O x)) (hb : attributeBase e n X.env (eval e X.env) = eval e X.env := by rfl) : PE (X.suite a ((a, oe) :: pn)) (.Attribute e n pos) (upE W Ow O (dXf a C Cb d n x)) :=
  pe_weak (pe_xf T hno hz hf h hb) fun σ H Q ⟨g, δ, P, er, r, w, q, k⟩ => ⟨g, δ, _, er, r, w, q, fun y ⟨fs, z, ey, ec, hl, pz⟩ v H' s rv => by
    subst ey ec
    cases rv with | @exc _ _ dd _ vs _ e1 of ea rr =>
    obtain ⟨u, h1, h2⟩ := rr.lookup hl
    exact ⟨rfl, rfl, dd, vs, u, rfl, ea, h1, k z pz u H' s h2⟩⟩
/-- try .. except C: a suite that raises -/
theorem s_tryX {x : Str} {Ci : Addr} {body suite : List Stmt} {b₀ : Stmt} {tb ts : DS} (hK : X.K = K) (hs : X.stack = X.env :: X.outer) (hf : X.env.frame = some X.env.locals) (hc : Names X x (.ref Ci)) (hpa : ∀ hd : Option Value, PassesOwnAt (model X.prog X.w) (X.A.mark hd) X.A X.env X.xe) (tk : L2.Takes X W) (hOw : ∀ i, i ∈ Ow → i ∈ O)
    (hb : ∀ (W' : WX) (pn : List (Addr × Obj)) (xe : Value → Shared → Prop), L2N.Takes (X.tr pn xe) W' → PassesOwn (model X.prog X.w) X.A X.env xe → PSs (X.tr pn xe) body (upS W' O O O tb))
    (hsu : ∀ (a : Addr) (oe : Obj) (pn : List (Addr × Obj)), L2.Takes (L2H.suiteX X a ((a, oe) :: pn)) W → L2H.HotC (L2H.suiteX X a ((a, oe) :: pn)) → PSs (L2H.suiteX X a ((a, oe) :: pn)) (b₀ :: suite) (upS W Ow O O ts)) :
    PS X (.Try body [.ExceptHandler (some (.Name x np)) none (b₀ :: suite) pos'] [] [] pos) (upS W Ow O O (dMix K tb [(Ci, none, fun _ _ _ => ts)])) :=
  ps_weak (L2H.ps_try_onlyX (tb := fun W' => upS W' O O O tb) (ts := fun _ _ _ => upS W Ow O O ts) hs hf hc hpa tk (fun W' pn xe h1 _ h3 => hb W' pn xe h1 h3) fun a oe cls d pn _ _ h3 h4 => hsu a oe pn h3 h4) fun E σ H ⟨g, δ, p, er, u⟩ => by
    subst hK
    refine ⟨g, δ, p, _, { rel := u.rel, ws := ?_, rd := u.rd, nx := u.nx, rt := u.rt, bk := u.bk, ct := u.ct }⟩
    intro δ C fs ⟨yes, h1, h2, h3⟩ σ dd H r x
    exact ⟨yes, h1, fun ey a ha => ⟨g, δ, p, er, { rel := r, ws := u.ws, rd := h2 ey a dd, nx := u.nx, rt := u.rt, bk := u.bk, ct := u.ct }⟩, fun ey => u.ws δ C fs (h3 ey) σ dd H (r.less hOw) x⟩
end
/-! ### the law itself -/
def spLaw (K : PySem.W.Frag) : Sp := fun vs H Q _ => ∃ (a : Addr) (ns : List Int), vs = [.ref a] ∧ SqL K H a (ns.map V.int) ∧ ns.length ≤ 63 ∧ ∀ H', Q (.bl true) H'
def sDraw : SpD := fun ds P _ => ∃ m : Int, ds = [.hand, .int m] ∧ 0 < m ∧ m < 9223372036854775808 ∧ ∀ d : Int, 0 ≤ d → d < m → P (.int d)
theorem draw_of {vs : List V} {H : Hp} {Q : VK} {E : XK} (h : spOf sDraw vs H Q E) : spDraw vs H Q E := by
  obtain ⟨N, ho, ds, P, er, na, hh, r, ⟨m, rfl, m0, m1, kp⟩, k, ke⟩ := h
  cases r with | cons r1 r2 =>
  cases r2 with | cons r2 r3 =>
  cases r3
  cases r2
  cases r1 with | @hand h q e =>
  refine ⟨h, q, m, rfl, hh h q e, m0, m1, fun d H' d0 d1 hd b => k _ (kp d d0 d1) _ H' ?_ (.int d)⟩
  subst e
  exact ⟨fun a o ea oa => by first | exact b a o ea (oa h q rfl) | exact b a o (oa h q rfl) ea, fun h' q' e' _ => by cases e'; exact hd⟩
section
variable {P : Program} {w : World} {K : PySem.W.Frag} {mg : Str → Option Value} {base : Heap}
theorem fn_draw {CX : CXT} {k : Nat} {f : Addr} {fd : FuncData} {ps : List Str} (F : FnOk P w K mg base CX k f fd ps spDraw) : FnOk P w K mg base CX k f fd ps (spOf sDraw) := F.imp fun _ _ _ _ h => draw_of h
theorem law_rd {Nm : List Str} {Oe : List Nat} {vs : List V} {H : Hp} {Q : VK} {E : XK} (hnm : 2 ≤ Nm.length) (O : List Nat) (hO : ∀ i, i ∈ O → 2 ≤ i) (d : DS)
    (hd : ∀ s0 : V, d { nx := fun _ => False, rt := fun y => y = .bl true } (fun _ => noX) ((dstart Nm [.raw s0]).set 1 (some .hand))) (h : spLaw K vs H Q E) :
    tSeq (tAsg (tCall (spHand K) [] E0 (tCons (tVar 0) tNil)) (gName 1)) (upS w0 [] O Oe d) { nx := fun _ H' => Q .non H', rt := Q } (L2.start Nm vs) H := by
  obtain ⟨a, ns, rfl, hS, hn, kk⟩ := h
  show tAsg _ _ _ _ _
  have g0 : ∃ v, (L2.start Nm [V.ref a])[0]? = some (some v) ∧ v = .ref a := ⟨_, rfl, rfl⟩
  refine ⟨.ref a, rfl, a, ns, rfl, hS, hn, fun h q H1 s1 hh1 => ?_⟩
  refine ⟨{ N := fun _ => False, ho := some (h, q), H0 := H1 }, (dstart Nm [.raw (.ref a)]).set 1 (some .hand), _, _, { rel := ?_, ws := fun _ _ _ z => (z : False).elim, rd := hd (.ref a), nx := fun _ _ _ _ z => (z : False).elim, rt := ?_, bk := fun _ _ _ _ z => z.elim, ct := fun _ _ _ _ z => z.elim }⟩
  · have r0 : Rel { N := fun _ => False, ho := some (h, q), H0 := H1 } [] H1 (L2.start Nm [V.ref a]) (dstart Nm [.raw (.ref a)]) := rel_start (fun _ z => z.elim) (fun h' q' e => by cases e; exact hh1) (.cons (.raw _) .nil) (fun i hi => nomatch hi)
    have r1 := r0.set (i := 1) (v := .ref h) (d := .hand) (fun z => nomatch z) (.hand rfl)
    refine ⟨r1.len, r1.base, r1.hand, r1.nall, fun i d n e => ?_, fun i d n e => ?_, fun i j a d e hi hj _ _ h3 _ => ?_⟩
    · obtain ⟨v, e1, e2⟩ := r1.free i d (fun z => nomatch z) e
      refine ⟨v, e1, e2.mono (fun _ _ e _ => e) fun b _ _ z => ?_⟩
      rcases z with z | ⟨j, d2, hj, e3, e4⟩
      · exact .inl z
      · have := hO j hj
        rw [set_off (by omega)] at e4
        have := (start_get e4).1
        simp at this
        omega
    · have := hO i n
      rw [set_off (by omega)] at e
      have := (start_get e).1
      simp at this
      omega
    · have := hO i hi
      rw [set_off (by omega)] at h3
      have := (start_get h3).1
      simp at this
      omega
  · rintro y v H' _ rp rfl
    cases rp
    exact kk H'
theorem law_d {x qual : Str} {st : Stmt} {f : Addr} {fd : FuncData} {Nm ps : List Str} {k : Nat} {st1 : Stmt} {rest : List Stmt} {Oe : List Nat} (F : Fun K x qual st f fd) (S : FnScope Nm ps (defScope st)) (hps : ps.length = 1) (hnm : 2 ≤ Nm.length) (O : List Nat) (hO : ∀ i, i ∈ O → 2 ≤ i) (eb : defBody st = st1 :: rest) (d : DS)
    (body : ∀ (cdv : Value) (A : Around) (outer : List Env) (sh : Shared) (H : Hp) (E : XK), Room k (A.deeper (envOfC qual (defScope st) sh.heap.objs.size f cdv)) →
      PS (cxOf CX0 P w K mg base Nm qual (defScope st) f cdv A outer sh H E).nox st1 (tAsg (tCall (spHand K) [] E0 (tCons (tVar 0) tNil)) (gName 1)) ∧ PSs (cxOf CX0 P w K mg base Nm qual (defScope st) f cdv A outer sh H E).nox rest (upS w0 [] O Oe d))
    (hd : ∀ s0 : V, d { nx := fun _ => False, rt := fun y => y = .bl true } (fun _ => noX) ((dstart Nm [.raw s0]).set 1 (some .hand))) : FnOk P w K mg base CX0 (k + 1) f fd ps (spLaw K) := by
  refine F.ok S (fun vs H Q E ⟨_, _, e, _⟩ => by rw [e, hps]; rfl) fun cdv A outer sh H vs Q E hr h => ?_
  obtain ⟨h1, h2⟩ := body cdv A outer sh H E hr
  rw [eb]
  exact ⟨_, pss_cons h1 h2, law_rd hnm O hO d hd h⟩
end
end DL
set_option Elab.async false
set_option linter.all false
set_option maxRecDepth 100000
set_option maxHeartbeats 4000000
namespace DL
open PySem PySem.Spec PyProof.Rows L2 Gen
/-! ### one row at a time -/
theorem sq_cut {a b : DS} {p : De} {er : DXS} {δ : DSt} (h : ∀ R : DSt → Prop, (R = fun δ' => b p er δ') → a { p with nx := R } er δ) : dSq a b p er δ := h _ rfl
theorem for_i {di : DI} {g : DG} {b : DS} {p : De} {er : DXS} {δ : DSt} (xs : List D) (I : Nat → DSt → Prop) (hd : ∀ Q : List D → Prop, Q xs → di (er δ) δ Q) (h0 : I 0 δ)
    (hs : ∀ k δ' x (N : DSt → Prop), (∀ δ2, I (k + 1) δ2 → N δ2) → I k δ' → xs[k]? = some x → g x δ' fun δ2 => b { nx := N, rt := p.rt, bk := p.nx, ct := N } er δ2) (he : ∀ δ', I xs.length δ' → p.nx δ') : dFor di g b p er δ := hd _ ⟨I, h0, fun k δ' x h e => hs k δ' x _ (fun _ z => z) h e, he⟩
theorem lc_i {di : DI} {g : DG} {tt : DT} {te : DE} {vs : List Nat} {er : DX} {δ : DSt} {P : D → Prop} (xs : List D) (I : Nat → List D → Prop) (hd : ∀ Q : List D → Prop, Q xs → di er δ Q) (h0 : I 0 [])
    (hs : ∀ k acc x (N : List D → Prop), (∀ a2, I (k + 1) a2 → N a2) → I k acc → xs[k]? = some x → g x (wipeD δ vs) fun δ2 => tt noX δ2 fun b => if b = true then te noX δ2 fun y => acc.length < sizeLine ∧ N (acc ++ [y]) else N acc) (he : ∀ acc, I xs.length acc → P (.lst acc)) : dLc di g tt te vs er δ P := hd _ ⟨I, h0, fun k acc x h e => hs k acc x _ (fun _ z => z) h e, he⟩
/-- .. with two fors -/
theorem lc2_i {di di1 : DI} {g g1 : DG} {tt tt1 : DT} {te : DE} {vs vs1 : List Nat} {er : DX} {δ : DSt} {P : D → Prop} (xs : List D) (I : Nat → List D → Prop) (hd : ∀ Q : List D → Prop, Q xs → di er δ Q) (h0 : I 0 [])
    (hs : ∀ k acc x (N : List D → Prop), (∀ a2, I (k + 1) a2 → N a2) → I k acc → xs[k]? = some x → g x (wipeD δ vs) fun δ2 => tt noX δ2 fun b => if b = true then di1 noX δ2 fun ys => ∃ I1 : Nat → List D → Prop, I1 0 acc ∧
      (∀ j acc1 y, I1 j acc1 → ys[j]? = some y → g1 y (wipeD δ2 vs1) fun δ3 => tt1 noX δ3 fun b => if b = true then te noX δ3 fun z => acc1.length < sizeLine ∧ I1 (j + 1) (acc1 ++ [z]) else I1 (j + 1) acc1) ∧ ∀ acc1, I1 ys.length acc1 → N acc1 else N acc) (he : ∀ acc, I xs.length acc → P (.lst acc)) : dLc2 di g tt di1 g1 tt1 te vs vs1 er δ P := hd _ ⟨I, h0, fun k acc x h e => hs k acc x _ (fun _ z => z) h e, he⟩
theorem map_step {α β : Type} {f : α → β} {xs : List α} {k : Nat} {x : α} (h : xs[k]? = some x) : (xs.take (k + 1)).map f = (xs.take k).map f ++ [f x] := by
  rw [List.take_add_one, h, List.map_append]; rfl
theorem fm_step {α β : Type} {f : α → Option β} {xs : List α} {k : Nat} {x : α} (h : xs[k]? = some x) : (xs.take (k + 1)).filterMap f = (xs.take k).filterMap f ++ (f x).toList := by
  rw [List.take_add_one, h, List.filterMap_append]
  cases e : f x <;> simp [e]
theorem fl_step {α : Type} {f : α → Bool} {xs : List α} {k : Nat} {x : α} (h : xs[k]? = some x) : (xs.take (k + 1)).filter f = (xs.take k).filter f ++ (if f x = true then [x] else []) := by
  rw [List.take_add_one, h, List.filter_append]
  cases e : f x <;> simp [e]
/-- a comprehension's loop, over what it goes -/
def lcB (g : DG) (tt : DT) (te : DE) (vs : List Nat) (δ : DSt) (P : D → Prop) (xs : List D) : Prop := ∃ I : Nat → List D → Prop, I 0 [] ∧
  (∀ k acc x, I k acc → xs[k]? = some x → g x (wipeD δ vs) fun δ2 => tt noX δ2 fun b => if b = true then te noX δ2 fun y => acc.length < sizeLine ∧ I (k + 1) (acc ++ [y]) else I (k + 1) acc) ∧ ∀ acc, I xs.length acc → P (.lst acc)
theorem lc_open {di : DI} {g : DG} {tt : DT} {te : DE} {vs : List Nat} {er : DX} {δ : DSt} {P : D → Prop} (h : di er δ (lcB g tt te vs δ P)) : dLc di g tt te vs er δ P := h
theorem lcB_i {g : DG} {tt : DT} {te : DE} {vs : List Nat} {δ : DSt} {P : D → Prop} {xs : List D} (I : Nat → List D → Prop) (h0 : I 0 [])
    (hs : ∀ k acc x (N : List D → Prop), (∀ a2, I (k + 1) a2 → N a2) → I k acc → xs[k]? = some x → g x (wipeD δ vs) fun δ2 => tt noX δ2 fun b => if b = true then te noX δ2 fun y => acc.length < sizeLine ∧ N (acc ++ [y]) else N acc) (he : ∀ acc, I xs.length acc → P (.lst acc)) : lcB g tt te vs δ P xs :=
  ⟨I, h0, fun k acc x h e => hs k acc x _ (fun _ z => z) h e, he⟩
def forB (g : DG) (b : DS) (p : De) (er : DXS) (δ : DSt) (xs : List D) : Prop := ∃ I : Nat → DSt → Prop, I 0 δ ∧ (∀ k δ' x, I k δ' → xs[k]? = some x → g x δ' fun δ2 => b { nx := I (k + 1), rt := p.rt, bk := p.nx, ct := I (k + 1) } er δ2) ∧ ∀ δ', I xs.length δ' → p.nx δ'
theorem for_open {di : DI} {g : DG} {b : DS} {p : De} {er : DXS} {δ : DSt} (h : di (er δ) δ (forB g b p er δ)) : dFor di g b p er δ := h
theorem forB_i {g : DG} {b : DS} {p : De} {er : DXS} {δ : DSt} {xs : List D} (I : Nat → DSt → Prop) (h0 : I 0 δ)
    (hs : ∀ k δ' x (N : DSt → Prop), (∀ δ2, I (k + 1) δ2 → N δ2) → I k δ' → xs[k]? = some x → g x δ' fun δ2 => b { nx := N, rt := p.rt, bk := p.nx, ct := N } er δ2) (he : ∀ δ', I xs.length δ' → p.nx δ') : forB g b p er δ xs :=
  ⟨I, h0, fun k δ' x h e => hs k δ' x _ (fun _ z => z) h e, he⟩
/-- a comprehension of a function -/
theorem lc_map {di : DI} {g : DG} {tt : DT} {te : DE} {vs : List Nat} {er : DX} {δ : DSt} {P : D → Prop} (xs : List D) (f : D → D) (hd : ∀ Q : List D → Prop, Q xs → di er δ Q) (hl : xs.length ≤ 1000)
    (hs : ∀ (k : Nat) (x : D) (Q : D → Prop), xs[k]? = some x → (∀ y, y = f x → Q y) → g x (wipeD δ vs) fun δ2 => tt noX δ2 fun b => b = true ∧ te noX δ2 Q)
    (mono : ∀ x Q Q', (∀ δ2, Q δ2 → Q' δ2) → g x (wipeD δ vs) Q → g x (wipeD δ vs) Q') (monoT : ∀ δ2 (Q Q' : Bool → Prop), (∀ b, Q b → Q' b) → tt noX δ2 Q → tt noX δ2 Q') (he : P (.lst (xs.map f))) : dLc di g tt te vs er δ P := by
  have small : (1000 : Nat) < sizeLine := by decide
  refine lc_i xs (fun k acc => acc = (xs.take k).map f) hd rfl (fun k acc x N hN e hx => ?_) fun acc e => by rw [e, List.take_length]; exact he
  refine mono x _ _ (fun δ2 h => monoT δ2 _ _ (fun b hb => ?_) h) (hs k x (fun y => acc.length < sizeLine ∧ N (acc ++ [y])) hx fun y ey => ⟨?_, hN _ ?_⟩)
  · rw [if_pos hb.1]; exact hb.2
  · have := (List.getElem?_eq_some_iff.mp hx).1
    rw [e, List.length_map, List.length_take]; omega
  · rw [map_step hx, ← e, ey]
/-! ### rising -/
def srt (ns : List Int) : List Int := ns.mergeSort (fun a b => decide (a ≤ b))
theorem srt_perm (ns : List Int) : (srt ns).Perm ns := List.mergeSort_perm ..
theorem srt_sorted (ns : List Int) : (srt ns).Pairwise (· ≤ ·) := by
  have h := List.pairwise_mergeSort (le := fun a b : Int => decide (a ≤ b)) (fun a b c h1 h2 => by simp at *; omega) (fun a b => by simp; omega) ns
  exact h.imp fun h => by simpa using h
theorem srt_eq {ms ns : List Int} (h : ms.Perm ns) (s : ms.Pairwise (· ≤ ·)) : ms = srt ns := PySem.W.os_sorted_one (h.trans (srt_perm ns).symm) s (srt_sorted ns)
theorem srt_len (ns : List Int) : (srt ns).length = ns.length := (srt_perm ns).length_eq
theorem srt_mem {ns : List Int} {x : Int} : x ∈ srt ns ↔ x ∈ ns := (srt_perm ns).mem_iff
theorem srt_self {ns : List Int} (h : ns.Pairwise (· ≤ ·)) : srt ns = ns := (srt_eq (.refl _) h).symm
theorem srt_of_perm {ms ns : List Int} (h : ms.Perm ns) : srt ms = srt ns := srt_eq ((srt_perm ms).trans h) (srt_sorted ms)
theorem srt_count (ns : List Int) (x : Int) : (srt ns).count x = ns.count x := (srt_perm ns).count_eq x
theorem srt_sum (ns : List Int) : (srt ns).sum = ns.sum := sum_perm (srt_perm ns)
/-! ### readings of built-ins -/
theorem fSorted_srt {x : D} {P : D → Prop} {ns : List Int} (h : x.seq = some (ns.map D.int)) (q : P (.lst ((srt ns).map D.int))) : fSorted [x] P := ⟨ns, h, fun ms p s => by rw [srt_eq p s]; exact q⟩
theorem fLen_seq {x : D} {P : D → Prop} {xs : List D} (h : x.seq = some xs) (q : P (.int xs.length)) : fLen [x] P := by
  cases x <;> simp only [D.seq] at h <;> cases h <;> exact q
theorem fList_seq {x : D} {P : D → Prop} {xs : List D} (h : x.seq = some xs) (q : P (.lst xs)) : fList [x] P := by
  cases x <;> simp only [D.seq] at h <;> cases h <;> exact q
theorem fTuple_seq {x : D} {P : D → Prop} {xs : List D} (h : x.seq = some xs) (q : P (.tup xs)) : fTuple [x] P := by
  cases x <;> simp only [D.seq] at h <;> cases h <;> exact q
theorem fIx_seq {x : D} {i : Int} {P : D → Prop} {xs : List D} {y : D} (h : x.seq = some xs) (e : atI xs i = some y) (q : P y) : fIx x (.int i) P := by
  cases x <;> simp only [D.seq] at h <;> cases h <;> exact ⟨y, e, q⟩
theorem fAll_map {α : Type} {xs : List α} {f : α → Bool} {P : D → Prop} (q : P (.bl (xs.all f))) : fAll [.lst (xs.map fun x => .bl (f x))] P := by
  refine ⟨xs.map f, by rw [List.map_map]; rfl, ?_⟩
  rw [List.all_map]
  exact q
theorem seq_tb {x : D} {xs : List D} (h : x.seq = some xs) : tbSeq x = some true := by
  cases x <;> simp only [D.seq] at h <;> first | rfl | cases h
/-! ### equality -/
theorem shp_nil (n : Nat) : D.shpA n [] = true := by cases n <;> rfl
theorem shp_cons (n : Nat) (x : D) (xs : List D) : D.shpA n (x :: xs) = (D.shp n x && D.shpA n xs) := by cases n <;> rfl
theorem shp_int (n : Nat) (i : Int) : D.shp n (.int i) = true := by cases n <;> rfl
theorem shp_non (n : Nat) : D.shp n .non = true := by cases n <;> rfl
theorem shp_bl (n : Nat) (b : Bool) : D.shp n (.bl b) = true := by cases n <;> rfl
theorem shp_str (n : Nat) (x : Str) : D.shp n (.str x) = PyData.strOk x := by cases n <;> rfl
theorem shp_lst (n : Nat) (xs : List D) : D.shp (n + 1) (.lst xs) = D.shpA n xs := rfl
theorem shp_tup (n : Nat) (xs : List D) : D.shp (n + 1) (.tup xs) = D.shpA n xs := rfl
theorem shpA_all {n : Nat} : ∀ {xs : List D}, (∀ x, x ∈ xs → D.shp n x = true) → D.shpA n xs = true
  | [], _ => shp_nil n
  | x :: xs, h => by rw [shp_cons, h x List.mem_cons_self, shpA_all fun y hy => h y (List.mem_cons_of_mem _ hy)]; rfl
theorem shpA_ints (n : Nat) (ns : List Int) : D.shpA n (ns.map D.int) = true := shpA_all fun x hx => by
  obtain ⟨i, _, rfl⟩ := List.mem_map.mp hx
  exact shp_int n i
theorem shpA_map {α : Type} {n : Nat} {f : α → D} {xs : List α} (h : ∀ x, x ∈ xs → D.shp n (f x) = true) : D.shpA n (xs.map f) = true := shpA_all fun x hx => by
  obtain ⟨i, hi, rfl⟩ := List.mem_map.mp hx
  exact h i hi
theorem eqv_self {n : Nat} {x : D} (h : D.shp n x = true) : PyData.eqv x.pd x.pd = true := PySem.SeqAt.eqv_refl _ (D.lay n x h).1
theorem fEq_self {x : D} {P : D → Prop} (h : D.shp 60 x = true) (q : P (.bl true)) : fEq x x P := ⟨h, h, by rw [eqv_self h]; exact q⟩
theorem fNe_self {x : D} {P : D → Prop} (h : D.shp 60 x = true) (q : P (.bl false)) : fNe x x P := ⟨h, h, by rw [eqv_self h]; exact q⟩
theorem fEq_same {x y : D} {P : D → Prop} (e : x = y) (h : D.shp 60 x = true) (q : P (.bl true)) : fEq x y P := by subst e; exact fEq_self h q
theorem fNe_same {x y : D} {P : D → Prop} (e : x = y) (h : D.shp 60 x = true) (q : P (.bl false)) : fNe x y P := by subst e; exact fNe_self h q
theorem pdA_ints : ∀ ns : List Int, D.pdA (ns.map D.int) = ns.map PyData.int
  | [] => rfl
  | n :: ns => by rw [List.map_cons, List.map_cons, D.pdA, D.pd, pdA_ints ns]
theorem eqvA_ints : ∀ ns ms : List Int, PyData.eqvAll (ns.map PyData.int) (ms.map PyData.int) = decide (ns = ms)
  | [], [] => by simp [PyData.eqvAll]
  | [], _ :: _ => by simp [PyData.eqvAll]
  | _ :: _, [] => by simp [PyData.eqvAll]
  | n :: ns, m :: ms => by
    simp only [List.map_cons, PyData.eqvAll, PyData.eqv, eqvA_ints ns ms]
    by_cases h1 : n = m <;> by_cases h2 : ns = ms <;> simp [h1, h2]
theorem eqv_int (i j : Int) : PyData.eqv (D.pd (.int i)) (D.pd (.int j)) = decide (i = j) := by simp only [D.pd, PyData.eqv]; by_cases h : i = j <;> simp [h]
theorem eqv_lsts (ns ms : List Int) : PyData.eqv (D.pd (.lst (ns.map D.int))) (D.pd (.lst (ms.map D.int))) = decide (ns = ms) := by simp only [D.pd, PyData.eqv, pdA_ints, eqvA_ints]
theorem eqv_tups (ns ms : List Int) : PyData.eqv (D.pd (.tup (ns.map D.int))) (D.pd (.tup (ms.map D.int))) = decide (ns = ms) := by simp only [D.pd, PyData.eqv, pdA_ints, eqvA_ints]
theorem fEq_int {i j : Int} {P : D → Prop} (q : P (.bl (decide (i = j)))) : fEq (.int i) (.int j) P := ⟨shp_int _ _, shp_int _ _, by rw [eqv_int]; exact q⟩
theorem fNe_int {i j : Int} {P : D → Prop} (q : P (.bl (!decide (i = j)))) : fNe (.int i) (.int j) P := ⟨shp_int _ _, shp_int _ _, by rw [eqv_int]; exact q⟩
theorem fEq_ints {i j : Int} {P : D → Prop} : fEq (.int i) (.int j) P ↔ P (.bl (decide (i = j))) := ⟨fun h => by have := h.2.2; rwa [eqv_int] at this, fEq_int⟩
theorem fNe_ints {i j : Int} {P : D → Prop} : fNe (.int i) (.int j) P ↔ P (.bl (!decide (i = j))) := ⟨fun h => by have := h.2.2; rwa [eqv_int] at this, fNe_int⟩
theorem fEq_lsts {ns ms : List Int} {P : D → Prop} (q : P (.bl (decide (ns = ms)))) : fEq (.lst (ns.map D.int)) (.lst (ms.map D.int)) P := ⟨shpA_ints _ _, shpA_ints _ _, by rw [eqv_lsts]; exact q⟩
theorem fEq_lstsI {ns ms : List Int} {P : D → Prop} : fEq (.lst (ns.map D.int)) (.lst (ms.map D.int)) P ↔ P (.bl (decide (ns = ms))) := ⟨fun h => by have := h.2.2; rwa [eqv_lsts] at this, fEq_lsts⟩
theorem fNe_lstsI {ns ms : List Int} {P : D → Prop} : fNe (.lst (ns.map D.int)) (.lst (ms.map D.int)) P ↔ P (.bl (!decide (ns = ms))) := ⟨fun h => by have := h.2.2; rwa [eqv_lsts] at this, fun q => ⟨shpA_ints _ _, shpA_ints _ _, by rw [eqv_lsts]; exact q⟩⟩
theorem fEq_tupsI {ns ms : List Int} {P : D → Prop} : fEq (.tup (ns.map D.int)) (.tup (ms.map D.int)) P ↔ P (.bl (decide (ns = ms))) := ⟨fun h => by have := h.2.2; rwa [eqv_tups] at this, fun q => ⟨shpA_ints _ _, shpA_ints _ _, by rw [eqv_tups]; exact q⟩⟩
theorem fNe_tupsI {ns ms : List Int} {P : D → Prop} : fNe (.tup (ns.map D.int)) (.tup (ms.map D.int)) P ↔ P (.bl (!decide (ns = ms))) := ⟨fun h => by have := h.2.2; rwa [eqv_tups] at this, fun q => ⟨shpA_ints _ _, shpA_ints _ _, by rw [eqv_tups]; exact q⟩⟩
theorem int_inj {ns ms : List Int} (h : ns.map D.int = ms.map D.int) : ns = ms := List.map_inj_right (fun _ _ e => by cases e; rfl) |>.mp h
theorem fSum_lst {ns : List Int} {P : D → Prop} : fSum [.lst (ns.map D.int)] P ↔ P (.int ns.sum) := ⟨fun ⟨ms, e, h⟩ => by rw [int_inj (Option.some.inj e)]; exact h, fun h => ⟨ns, rfl, h⟩⟩
theorem fSum_tup {ns : List Int} {P : D → Prop} : fSum [.tup (ns.map D.int)] P ↔ P (.int ns.sum) := ⟨fun ⟨ms, e, h⟩ => by rw [int_inj (Option.some.inj e)]; exact h, fun h => ⟨ns, rfl, h⟩⟩
theorem fSorted_lst {ns : List Int} {P : D → Prop} : fSorted [.lst (ns.map D.int)] P ↔ P (.lst ((srt ns).map D.int)) := ⟨fun ⟨ms, e, h⟩ => by cases int_inj (Option.some.inj e); exact h _ (srt_perm _) (srt_sorted _), fun h => fSorted_srt rfl h⟩
theorem fSorted_tup {ns : List Int} {P : D → Prop} : fSorted [.tup (ns.map D.int)] P ↔ P (.lst ((srt ns).map D.int)) := ⟨fun ⟨ms, e, h⟩ => by cases int_inj (Option.some.inj e); exact h _ (srt_perm _) (srt_sorted _), fun h => fSorted_srt rfl h⟩
/-! ### in -/
theorem inV_ints (k : Int) (ns : List Int) : inV (D.fl (.int k)) ((ns.map D.int).map D.fl) = decide (k ∈ ns) := by
  induction ns with
  | nil => simp [inV]
  | cons n ns ih =>
    simp only [List.map_cons, List.mem_cons, Bool.decide_or]
    rw [← ih]
    simp only [inV, D.fl, List.any_cons]
    congr 1
    simp only [eqV]
    by_cases h : k = n
    · subst h; simp
    · have h2 : ¬ n = k := fun e => h e.symm
      simp [h, h2]
theorem flat_ints (ns : List Int) : (ns.map D.int).all D.flat = true := by simp [D.flat]
theorem fIn_lst {neg : Bool} {k : Int} {ns : List Int} {P : D → Prop} (q : P (.bl (if neg then !decide (k ∈ ns) else decide (k ∈ ns)))) : fIn neg (.int k) (.lst (ns.map D.int)) P := ⟨rfl, flat_ints ns, by rw [inV_ints]; exact q⟩
theorem fIn_tup {neg : Bool} {k : Int} {ns : List Int} {P : D → Prop} (q : P (.bl (if neg then !decide (k ∈ ns) else decide (k ∈ ns)))) : fIn neg (.int k) (.tup (ns.map D.int)) P := ⟨rfl, flat_ints ns, by rw [inV_ints]; exact q⟩
section
variable {O : List Nat} {l : List (Addr × Option Nat × SD)} {c : Addr} {t : SD} {j : Nat}
theorem hi_nil : ∀ x, x ∈ ([] : List (Addr × Option Nat × SD)) → ∀ i, x.2.1 = some i → i ∉ O := fun _ h => nomatch h
theorem hi_some (hj : j ∉ O) (h : ∀ x, x ∈ l → ∀ i, x.2.1 = some i → i ∉ O) : ∀ x, x ∈ (c, some j, t) :: l → ∀ i, x.2.1 = some i → i ∉ O := fun x hx i e => by
  rcases List.mem_cons.mp hx with rfl | hx
  · cases e; exact hj
  · exact h x hx i e
theorem hi_none (h : ∀ x, x ∈ l → ∀ i, x.2.1 = some i → i ∉ O) : ∀ x, x ∈ (c, none, t) :: l → ∀ i, x.2.1 = some i → i ∉ O := fun x hx i e => by
  rcases List.mem_cons.mp hx with rfl | hx
  · cases e
  · exact h x hx i e
end
theorem call_tuple_ofNK {X : Cx} {K : PySem.W.Frag} (hK : X.K = K) : CallR X (.type "tuple") (fun xs H Q => ∃ p ys, xs = [V.ref p] ∧ SqL K H p ys ∧ ∀ (l : Addr) (o : Obj), H l = none → o.cls = .type "tuple" → o.dict = none → Q (.ref l) (upd H l (.frz o (.tup ys)))) := by
  subst hK
  exact call_tuple_ofN
theorem cutD_to (xs : List D) (j : Nat) : DL.cutD xs none (some (j : Int)) = xs.take j := by
  unfold DL.cutD
  rw [HT.sIx_none, HT.sIx_nat, List.drop_zero, Nat.sub_zero, Nat.min_def]
  split
  · rfl
  · rw [List.take_length, List.take_of_length_le (by omega)]
theorem cutD_from (xs : List D) (j : Nat) : DL.cutD xs (some (j : Int)) none = xs.drop j := by
  unfold DL.cutD
  rw [HT.sIx_none, HT.sIx_nat, Nat.min_def]
  split
  · rw [List.take_of_length_le (by rw [List.length_drop]; omega)]
  · rw [List.drop_length, List.drop_eq_nil_of_le (by omega), List.take_nil]
theorem cutD_toI {xs : List D} {j : Int} (h : 0 ≤ j) : DL.cutD xs none (some j) = xs.take j.toNat := by
  rw [← cutD_to, Int.toNat_of_nonneg h]
theorem cutD_fromI {xs : List D} {j : Int} (h : 0 ≤ j) : DL.cutD xs (some j) none = xs.drop j.toNat := by
  rw [← cutD_from, Int.toNat_of_nonneg h]
end DL
set_option Elab.async false
set_option linter.all false
set_option maxRecDepth 100000
set_option maxHeartbeats 4000000
/-! ## More rules: min and max with default= -/
namespace Gen
open PySem PySem.Spec PyProof.Rows L2
section
variable {X : Cx}
def rMinD (K : PySem.W.Frag) : List V → List V → Hp → VK → Prop := fun vs zs H Q => ∃ (a : Addr) (ns : List Int) (d : V), vs = [V.ref a] ∧ zs = [d] ∧ SqL K H a (ns.map V.int) ∧ (ns = [] → Q d H) ∧ (0 < ns.length → ∀ m, m ∈ ns → (∀ y, y ∈ ns → m ≤ y) → Q (.int m) H)
theorem same_but {s s' : Shared} {h : Heap} {wr : List Addr} (m : Moved wr (fun a b => b = a) { s with heap := h } s') : s' = { s with heap := s'.heap, toks := s'.toks } := by
  have h1 := m.gens
  have h2 := m.drawn
  have h3 := m.os
  cases s'
  cases s
  simp only at h1 h2 h3
  subst h1 h2 h3
  rfl
theorem cr_minD (hc : X.calm = true) : CallRK X (.builtin "min") [Str.ofString "default"] (rMinD X.K) := by
  intro pins s σ H vs zs us ws Q I r rz h
  obtain ⟨a, ns, d, rfl, rfl, hs, q0, q1⟩ := h
  obtain ⟨its, rv, hl, _⟩ := I.list hs
  obtain rfl := Vals.ref1 r
  obtain ⟨w1, rfl, e1⟩ := vals1 rz
  have hi := rv.ints
  obtain ⟨xs, e⟩ := hi.allInts.items
  have hn : numsOf (intItems xs).toList = ns := by rw [← e]; exact hi.numsOf
  rw [nums_intItems] at hn
  have hl2 := hl.isList
  rw [e] at hl2
  have hk0 : ∀ b o, s.heap.get? b = some o → b ∉ [s.heap.objs.size] := fun b o ho hm => by
    rw [List.mem_singleton.mp hm] at ho
    exact absurd (Heap.lt_size ho) (Nat.lt_irrefl _)
  have hkeep : ∀ (s' : Shared) b o, (∀ b o, b ∉ [s.heap.objs.size] → (s.heap.push { cls := .type "list_iterator", data := .fields #[.ref a, .int 0 0] }).get? b = some o → s'.heap.get? b = some o) → s.heap.get? b = some o → s'.heap.get? b = some o := fun s' b o hk ho => hk b o (hk0 b o ho) (Heap.get?_push_of_some _ ho)
  refine call_min_walkD (iter_intList hl2 fun s₂ es st hfp hlI => ?_)
  subst es
  refine ⟨_, _, _, _, _, _, _, s.heap, (fun i j => decide (numAt xs i < numAt xs j)), rfl, (Walks.list (A := X.A.in1) (I.ok.hd hc) _ a hlI (intItems xs)).toS, st, hfp, hk0, fun b o ho => Heap.get?_push_of_some _ ho, fun h0 s' hm => ?_, fun hp => ⟨?_, fun v s' hP hm => ?_⟩⟩
  · rw [same_but hm]
    have e0 : ns = [] := by
      rw [← hn]
      have : xs.size = 0 := by simpa [intItems] using h0
      rw [Array.size_eq_zero_iff.mp this]
      rfl
    exact ⟨d, H, I.kept fun b o ho => hkeep s' b o hm.heap ho, e1, q0 e0⟩
  · intro i j vi vj s3 Q3 E3 _ hi hj h
    exact CmpOf.ints_lt (numAt xs) (fun _ _ => intItems_at) i j vi vj s3 Q3 E3 hi hj h
  · rw [same_but hm]
    obtain ⟨t, rfl⟩ := intItems_at hP
    have hsz : 0 < xs.size := by simpa [intItems] using hp
    have hsz2 : (intItems xs).size - 1 = xs.size - 1 := by simp [intItems]
    obtain ⟨b1, b2⟩ := argBest_lt (numAt xs) (xs.size - 1)
    subst hn
    rw [hsz2]
    refine ⟨.int _, H, I.kept fun b o ho => hkeep s' b o hm.heap ho, ⟨t, rfl⟩, q1 (by simpa using hsz) _ ?_ fun y hy => ?_⟩
    · rw [numAt_eq]; exact PySem.getD_mem (by rw [List.length_map, Array.length_toList]; omega)
    · obtain ⟨j, hj, rfl⟩ := mem_getD hy
      rw [List.length_map, Array.length_toList] at hj
      rw [← numAt_eq]; exact b2 j (by omega)
end
/-! ### a, b, .. = a list -/
section
variable {prog : Program} {w : World} {A : Around} {E : Value → Shared → Prop} {s : Shared}
theorem draw_list {it t : Addr} {items : Array Value} (hne : t ≠ it) : ∀ (n i : Nat) (s : Shared) (Q : List Value → Shared → Prop), s.heap.IsListIter it t i → s.heap.IsList t items → i + n ≤ items.size →
    (∀ h', h'.IsListIter it t (i + n) → Heap.SameBut it s.heap h' → Q ((items.toList.drop i).take n) { s with heap := h' }) → wpAny (model prog w) A (draw (.ref it) n) Q E s
  | 0, i, s, Q, hit, _, _, hQ => by
    show wpAny _ _ (pure []) Q E s
    exact wpAny_pure (by simpa using hQ s.heap hit (Heap.SameBut.refl ..))
  | n + 1, i, s, Q, hit, ht, hle, hQ => by
    have hlt : i < items.size := by omega
    show wpAny _ _ (pyNext (.ref it) >>= _) Q E s
    refine wpAny_bind (wpAny_pyNext_list_item hit ht (x := items[i]) (by simp [hlt]) fun h₁ hit₁ hs₁ => ?_)
    refine wpAny_bind (wpAny_holding (draw_list hne n (i + 1) _ _ hit₁ (ht.extBut hs₁.extBut hne) (by omega) fun h₂ hit₂ hs₂ => wpAny_pure ?_))
    have hd : items.toList.drop i = items[i] :: items.toList.drop (i + 1) := by simp [List.drop_eq_getElem_cons, hlt]
    have := hQ h₂ (by rw [show i + (n + 1) = i + 1 + n by omega]; exact hit₂) (hs₁.trans hs₂)
    rw [hd, List.take_succ_cons] at this
    exact this
theorem unpackItems_list {t : Addr} {items : Array Value} {Q : List Value → Shared → Prop} (hh : A.handled = none) (ht : s.heap.IsList t items)
    (hQ : ∀ h', Heap.ExtBut s.heap.objs.size s.heap h' → Q items.toList { s with heap := h' }) : wpAny (model prog w) A (unpackItems (.ref t) items.size none) Q E s := by
  have hlt : t ≠ s.heap.objs.size := by obtain ⟨o, ho, _⟩ := ht; exact Nat.ne_of_lt (Heap.lt_size ho)
  unfold unpackItems
  refine wpAny_bind ?_
  · unfold notIterableAtAll
    refine wpAny_bind (wpAny_specialOf ht.typeIs F.slot_list_iter.lookup ?_)
    refine wpAny_pure ?_
    simp only [Bool.false_eq_true, if_false]
    refine wpAny_bind (wpAny_holding (wpAny_pyIter_list ht ?_))
    refine wpAny_bind (wpAny_holding (draw_list hlt items.size 0 _ _ ⟨_, Heap.get?_push_size _ rfl, rfl, rfl⟩ (ht.push _) (by omega) fun h₁ hit₁ hs₁ => ?_))
    have hall : List.take items.size (List.drop 0 items.toList) = items.toList := by
      rw [List.drop_zero]; exact List.take_of_length_le (by simp)
    rw [hall]
    rw [if_neg (by simp)]
    have ht₁ : h₁.IsList t items := (ht.push _).extBut hs₁.extBut hlt
    refine wpAny_bind (wpAny_holding (wpAny_pyNext_list_end hh hit₁ ht₁ (by simp) fun h₂ he₂ => ?_))
    simp only [Option.isSome_none, Bool.false_eq_true, if_false]
    refine wpAny_pure (hQ h₂ fun b o hb e => he₂ b o hb (hs₁.extBut b o hb (Heap.get?_push_of_some _ e)))
theorem assign_Tuple_list {env : Env} {elts : List Expr} {x1} {pos : Pos} {t : Addr} {items : Array Value} {Q : Unit → Shared → Prop} (hh : A.handled = none) (ht : s.heap.IsList t items)
    (hn : (assignEach elts env).length = items.size) (hstar : (assignEach elts env).findIdx? (·.1) = none)
    (h : ∀ h', Heap.ExtBut s.heap.objs.size s.heap h' → wpAny (model prog w) A (assignInOrder ((assignEach elts env).map (·.2)) items.toList) Q E { s with heap := h' }) :
    wpAny (model prog w) A (assign (.Tuple elts x1 pos) env (.ref t)) Q E s := by
  rw [assign_Tuple]
  refine wpAny_bind (wpAny_standAt ?_)
  unfold unpack
  rw [hn, hstar]
  exact wpAny_bind (wpAny_holding (unpackItems_list hh ht h))
end
section
variable {X : Cx} {pos : Pos}
/-- (a, b, ..) = a list or a tuple of that length -/
def gSeq (K : PySem.W.Frag) (n : Nat) (t : TGs) : TG := fun v σ H Q => ∃ a xs, v = .ref a ∧ (SqL K H a xs ∨ SqT K H a xs) ∧ xs.length = n ∧ t xs σ H Q
theorem pg_seq {es : List Expr} {k : Nat} {t : TGs} {n : Nat} (hc : X.calm = true) (h : PGs X es t)
    (hn : (assignEach es X.env).length = n := by rfl) (hst : (assignEach es X.env).findIdx? (·.1) = none := by rfl) : PG X (.Tuple es k pos) (gSeq X.K n t) := by
  refine ⟨fun pins s σ H v u Q I r hw => ?_⟩
  obtain ⟨a, xs, e1, hq, hl, hw⟩ := hw
  rcases hq with hq | hq
  · subst e1
    cases r
    obtain ⟨its, rv, ht, hz⟩ := I.list hq
    refine assign_Tuple_list (I.ok.hd hc) ht.isList (by simp [hn, ← hl, rv.length]) hst fun h' hx => ?_
    have I1 : Inv X pins σ H { s with heap := h' } := I.kept (t' := s.toks) fun b o e => hx b o (Nat.ne_of_lt (Heap.lt_size e)) e
    exact h.run pins _ σ H xs _ Q I1 (by simpa using rv) hw
  · exact (pg_tup hc h hn hst).run pins s σ H v u Q I r ⟨a, xs, e1, hq, hl, hw⟩
end
end Gen
namespace DL
open PySem PySem.Spec PyProof.Rows L2 Gen
section
variable {O vs : List Nat}
def gS (n : Nat) (t : DGs) : DG := fun x δ Q => ∃ ys, x.seq = some ys ∧ ys.length = n ∧ t ys δ Q
theorem lg_seq {K : PySem.W.Frag} {n : Nat} {u : TGs} {gs : DGs} (h : LGs O vs u gs) : LG O vs Rp (gSeq K n u) (gS n gs) := by
  intro g0 H σ δ v x Q' Q r rv hh k
  obtain ⟨ys, e, hl, hq⟩ := hh
  cases x <;> simp only [D.seq] at e <;> cases e
  · obtain ⟨a, us, rfl, _, ea, ra⟩ := rv_lst (.inl rv)
    exact ⟨a, us, rfl, .inl (SqL.of ea), by rw [ra.length]; exact hl, h g0 H σ δ _ _ _ _ r ra hq k⟩
  · obtain ⟨a, us, rfl, _, ea, ra⟩ := rp_tup rv
    exact ⟨a, us, rfl, .inr ea.sq, by rw [ra.length]; exact hl, h g0 H σ δ _ _ _ _ r ra hq k⟩
end
section
variable {X : Cx} {W : WX} {Ow O vs : List Nat} {e e2 : Expr} {x : DE} {pos p kp : Pos} {d d2 : DE} {tg : Expr}
/-- a, b, .. = e -/
def dAsgT (x : DE) (g : DG) : DS := fun p er δ => x (er δ) δ fun y => g y δ p.nx
theorem s_asgT {t : TG} {g : DG} (he : PE X e (upE W Ow O x)) (hg : PG X tg t) (hL : LG O vs Rp t g) (hs : swapsWithSole [tg] e pos.line X.env = pure false := by rfl) (hw : swappedStores [tg] e X.env = pure none := by rfl)
    (h1 : (assignEach [tg] X.env).map (·.2) = [assign tg X.env] := by rfl) : PS X (.Assign [tg] e pos) (upS W Ow O O (dAsgT x g)) := ps_weak (ps_asg he hg hs hw h1) fun E σ H ⟨g0, δ, p, er, u⟩ =>
  ⟨g0, δ, _, er δ, u.rel, u.ws.at _ _, u.rd, fun y py v H' s z => hL g0 H' σ δ v y p.nx E.nx (u.rel.ext s) z py fun δ' σ' r' _ _ q => u.nx δ' σ' H' r' q⟩
/-- a built-in of one argument and one keyword -/
def LiftC2 (f : D → D → (D → Prop) → Prop) (r : List V → List V → Hp → VK → Prop) : Prop := ∀ ho N H, Hc ho N H → ∀ x y v u P Q, Rv ho H N v x → Rp ho H N u y → f x y P → (∀ z, P z → ∀ w H', Ext ho H H' → Rp ho H' N w z → Q w H') → r [v] [u] H Q
def dCBK (f : D → D → (D → Prop) → Prop) (x y : DE) : DE := fun er δ P => x er δ fun a => y er δ fun b => f a b P
theorem d_callBK {id : String} {n : Str} {ks : List Str} {kn : Option Str} {f : D → D → (D → Prop) → Prop} {r : List V → List V → Hp → VK → Prop} (hc : CallRK X (.builtin id) ks r) (L : LiftC2 f r) (hg : Gl X n) (hm : X.mg n = none) (hv : bootBuiltins n = some (.builtin id))
    (ha : PE X e (upV W Ow O d)) (hk : PE X e2 (upE W Ow O d2)) (hn : n ≠ "__name__" := by decide) (hdb : (n == ("__debug__" : Str)) = false := by decide)
    (hs : starEach [e] X.env = (false, eval e X.env) :: starEach [] X.env := by rfl)
    (he : backTo pos (starEach [e] X.env) = (false, eval e X.env) :: backTo pos (starEach [] X.env) := by rfl) (hpl : (backTo pos (starEach [e] X.env)).any (·.1) = false := by rfl)
    (hall : (backToKw pos (keywordEach [⟨kn, e2, kp⟩] X.env)).all (·.1.isSome) = true := by rfl) (hnone : (backToKw pos (keywordEach [⟨kn, e2, kp⟩] X.env)).any (·.1.isNone) = false := by rfl) (hks : (backToKw pos (keywordEach [⟨kn, e2, kp⟩] X.env)).filterMap (·.1) = ks := by rfl) :
    PE X (.Call (.Name n p) [e] [⟨kn, e2, kp⟩] pos) (upE W Ow O (dCBK f d d2)) :=
  pe_weak (pe_callBK hc hg hm hv (pa_cons ha pa_nil hs) (pk_cons hk pk_nil) hn hdb he hpl hall hnone hks) fun σ H Q ⟨g, δ, P, er, r0, w, q, k⟩ =>
    ⟨g, δ, _, er, r0, w, q, fun y py v H1 s1 z1 => ⟨g, δ, _, er, r0.ext s1, w, py, fun b pb u H2 s2 z2 => L _ _ _ ((r0.ext s1).ext s2).hc _ _ _ _ _ _ (z1.ext s2) z2 pb fun z pz w' H' s3 r3 => k z pz w' H' ((s1.trans s2).trans s3) r3⟩⟩
def fMinD : D → D → (D → Prop) → Prop
  | .lst xs, y, P => ∃ ns : List Int, xs = ns.map D.int ∧ (ns = [] → P y) ∧ (0 < ns.length → ∀ m, m ∈ ns → (∀ y, y ∈ ns → m ≤ y) → P (.int m))
  | _, _, _ => False
theorem c_minD {K : PySem.W.Frag} : LiftC2 fMinD (rMinD K) := by
  intro ho N H c x y v u P Q hx hy h k
  match x, h with
  | .lst xs, ⟨ns, e, h0, h1⟩ =>
    subst e
    obtain ⟨a, ws, rfl, _, ea, ra⟩ := rv_lst hx
    have := ra.ints
    subst this
    exact ⟨a, ns, u, rfl, rfl, SqL.of ea, fun e => k _ (h0 e) _ H .refl hy, fun hl m h2 h3 => k _ (h1 hl m h2 h3) _ H .refl (.int _)⟩
end
end DL
set_option Elab.async false
set_option linter.all false
set_option maxRecDepth 100000
set_option maxHeartbeats 4000000
/-! ## repr: defs that are promised only where no repr is under way (the guards are known and none) -/
namespace Gen
open PySem PySem.Spec PyProof.Rows L2
/-- as FnOk, asked only where no guard is held -/
structure FnG (P : Program) (w : World) (K : PySem.W.Frag) (mg : Str → Option Value) (base : Heap) (CX : CXT) (k : Nat) (f : Addr) (fd : FuncData) (ps : List Str) (sp : Sp) : Prop where
  len : ∀ vs H Q E, sp vs H Q E → vs.length = ps.length
  go : ∀ (A : Around) (outer : List Env) (s : Shared) (H : Hp) (args : Args) (us : List Value) (vs : List V) (Q : VK) (E : XK), A.guards = some [] → Room k A → Env0 P w K mg base A outer s H → BindsTo s fd args (ps.zip us) → Vals vs us → sp vs H Q E →
    codeAny (model P w) A (.call (.ref f) args) (CR CX outer P w H s Q E) s
section
variable {P : Program} {w : World} {K : PySem.W.Frag} {mg : Str → Option Value} {base : Heap}
theorem FnG.of {CX : CXT} {k : Nat} {f : Addr} {name qual : Str} {params : Arguments} {body : List Stmt} {scope : Scope} {dV kV doc pm cdv ct oc : Value} {an od : Option Addr} {osl : Array (Option Value)} {N ps : List Str} {sp : Sp}
    (lk : K.lookup f = some ⟨oc, od, .func (PySem.W.fnOf name qual params body scope dV kV doc pm an cdv ct), osl⟩) (hcd : PySem.W.codeIn K cdv qual = true) (S : FnScope N ps scope) (len : ∀ vs H Q E, sp vs H Q E → vs.length = ps.length)
    (bod : ∀ (A : Around) (outer : List Env) (s : Shared) (H : Hp) (vs : List V) (Q : VK) (E : XK), A.guards = some [] → Room k (A.deeper (envOfC qual scope s.heap.objs.size f cdv)) → sp vs H Q E →
      ∃ t, PSs (cxOf CX P w K mg base N qual scope f cdv A outer s H E) body t ∧ t { nx := fun _ H' => Q .non H', rt := Q } (L2.start N vs) H) :
    FnG P w K mg base CX (k + 1) f (PySem.W.fnOf name qual params body scope dV kV doc pm an cdv ct) ps sp where
  len := len
  go A outer s H args us vs Q E gd room env0 bound rel want := by
    obtain ⟨t, reads, at0⟩ := bod A outer s H vs Q E gd (room.deeper _) want
    have kin : K.In s.heap := env0.mod.kin.keeps fun b o z => (env0.bs b o z).1
    have nolim : s.heap.NoLimit := env0.mod.nolimit.keeps fun b o z => (env0.bs b o z).1
    have places : ∀ y ∈ ps.zip us, scope.names.lookup y.1 = some .local ∨ (scope.names.lookup y.1 = some .cell ∧ ((cellsFrom (s.heap.objs.size + 1) scope.names []).lookup y.1).isSome = true) := by
      rintro ⟨n, v⟩ hy
      exact (S.par n (List.of_mem_zip hy).1).imp id fun z => ⟨z, PySem.W.cellsFrom_some _ _ _ (.inl z)⟩
    refine codeAny_call_function room.depth (kin _ _ lk) rfl S.co S.gen rfl (PySem.W.codeRec_of kin hcd) (bound _ _ _ _ (wpAny_newFunctionEnv_cells S.kind places ?_))
    rintro env rfl s1 entered
    refine ⟨nolim.keeps entered.toInCall.keep, codeAny_func ?_⟩
    have I0 : Inv (cxOf CX P w K mg base N qual scope f cdv A outer s H E) [] (L2.start N vs) H s1 := inv_start S room.hd env0 (len _ _ _ _ want) rel entered
    refine wpAny_mono (reads.run [] s1 _ H _ I0 at0) (fun fl s2 h2 => ?_) fun _ _ z => z
    have leave : ∀ {σ2 : L2.St} {H2 : Hp} {v : V} {u : Value}, Inv (cxOf CX P w K mg base N qual scope f cdv A outer s H E) [] σ2 H2 s2 → RelV v u → Q v H2 → CE outer P w H s Q u s2 :=
      fun {_ H2 v _} J r q => ⟨v, H2, J.os, J.bare, J.base, J.hok, r, q⟩
    match fl, h2 with
    | .ret u, ⟨v, _, _, J, r, q⟩ => exact leave J r q
    | .next, ⟨_, _, J, q⟩ => exact leave (v := V.non) (u := Value.none) J rfl q
    | .brk, ⟨_, _, _, q⟩ => exact q.elim
    | .cont, ⟨_, _, _, q⟩ => exact q.elim
theorem okG {x qual : Str} {st : Stmt} {f : Addr} {fd : FuncData} {N ps : List Str} {k : Nat} {sp : Sp} (F : Fun K x qual st f fd) (S : FnScope N ps (defScope st)) (len : ∀ vs H Q E, sp vs H Q E → vs.length = ps.length)
    (bod : ∀ (cdv : Value) (A : Around) (outer : List Env) (s : Shared) (H : Hp) (vs : List V) (Q : VK) (E : XK), A.guards = some [] → Room k (A.deeper (envOfC qual (defScope st) s.heap.objs.size f cdv)) → sp vs H Q E →
      ∃ t, PSs (cxOf CX0 P w K mg base N qual (defScope st) f cdv A outer s H E).nox (defBody st) t ∧ t { nx := fun _ H' => Q .non H', rt := Q } (L2.start N vs) H) : FnG P w K mg base CX0 (k + 1) f fd ps sp := by
  obtain ⟨_, _, _, _, _, _, cdv, _, _, rfl, lk, hcd⟩ := F.ex
  exact FnG.of lk hcd S len fun A outer s H vs Q E gd hr hs => (bod cdv A outer s H vs Q E gd hr hs).imp fun t h => ⟨h.1.nox, h.2⟩
end
section
variable {X : Cx} {CX : CXT} {k : Nat} {f : Addr} {fd : FuncData} {ps : List Str} {sp : Sp} {dvs : List V} {ds : List Value} {E : XK} {x : Str} {p pos : Pos} {e : Expr} {es : List Expr} {t : TA}
theorem pe_callG (F : FnG X.prog X.w X.K X.mg X.base CX k f fd ps sp) (gd : X.A.guards = some []) (hr : Room k X.A) (hg : Gl X x) (hm : X.mg x = some (.ref f)) (hk : PySem.W.keepIn X.K (.ref f) = true) (hb : L2.Binds X.K fd ps ds) (hd : Vals dvs ds) (hx : Passes CX X E)
    (ha : PA X (e :: es) t) (hdb : (x == ("__debug__" : Str)) = false := by decide) (he : starEach (e :: es) X.env = (false, eval e X.env) :: starEach es X.env := by rfl) (hpl : (backTo pos (starEach es X.env)).any (·.1) = false := by rfl) :
    PE X (.Call (.Name x p) (e :: es) [] pos) (tCall sp dvs E t) where
  run pins s σ H Q I h := by
    have called : ∀ (s1 : Shared) (us : List Value) (vs : List V) (H1 : Hp), Inv X pins σ H1 s1 → Vals vs us → sp (vs ++ dvs) H1 Q E → wpAny (model X.prog X.w) X.A (call (.ref f) us) (EP X pins σ Q) X.xe s1 := by
      intro s1 us vs H1 I1 r1 q1
      have both := r1.append hd
      refine wpAny_call (codeAny_mono (F.go X.A X.stack s1 H1 ⟨us, []⟩ _ _ Q E gd hr I1.env0 (hb s1 us I1.kIn (both.length.symm.trans (F.len _ _ _ _ q1))) both q1) ?_)
      intro o s2 h2
      match o, h2 with
      | .error z, h2 => exact hx pins σ H1 s1 z s2 I1 h2
      | .ok (.ret u), h2 => exact I1.after h2
    exact wpAny_Call_Name_kw (ld_glob I hg hm (PySem.W.callWith_K (h₀ := X.base) I.ok.mod.kin hk (thn (ha.run pos pins s σ H _ I h) fun us s1 ⟨vs, H1, I1, r1, q1⟩ => ⟨I1.kIn, called s1 us vs H1 I1 r1 q1⟩) he hpl) hdb)
end
end Gen
namespace Gen
open PySem PySem.Spec PyProof.Rows L2
section
variable {P : Program} {w : World} {K : PySem.W.Frag} {mg mb : Str → Option Value} {CX : CXT} {k : Nat} {fa a : Addr} {fd : FuncData} {x : Str} {sp : Sp} {s₁ : Shared} {vs : List Value} {ns : List Int}
/-- what the head asks of the law's call -/
abbrev HeadQ (s₁ : Shared) : Result → Shared → Prop := fun r s' => r = .ok (.ret (.bool true)) ∧ OldK s₁.heap s'.heap ∧ s'.os = s₁.os ∧ AllBare s'.gens
theorem head_at (KX : K.In s₁.heap) (hns : s₁.heap.Ns mainGlobals mg) (hb : s₁.heap.Ns builtinsNs mb) (hbb : ∀ x : Str, x ≠ "__name__" → mb x = bootBuiltins x) (hlim : s₁.heap.NoLimit) (hg : s₁.gens = #[])
    (ha : s₁.heap.get? a = some { cls := .type "list", data := .seq vs.toArray }) (hr : Room k callerA)
    (F : ∀ base : Heap, K.In base → base.Ns mainGlobals mg → FnG P w K mg base CX k fa fd [x] sp) (hbind : ∀ (s : Shared) (u : Value), BindsTo s fd ⟨[u], []⟩ [(x, u)])
    (hCX : ∀ H e s', CX [] H s₁ (fun _ _ _ => False) e s' → False)
    {H : Hp} (hO : Only H) (asked : sp [.ref a] H (fun v _ => v = .bl true) fun _ _ _ => False) (ok : HOk P w H s₁.heap) (just : ∀ b, H b ≠ none → b = a) (his : H a ≠ none → K.lookup a = none) :
    codeAny (model P w) callerA (.call (.ref fa) ⟨[.ref a], []⟩) (HeadQ s₁) s₁ := by
  have off : ∀ b, b ≠ a → H b = none := fun b n => Classical.byContradiction fun z => n (just b z)
  have dictOff : ∀ {b : Addr} {o : Obj} {es : Array DictEntry} {ep : Nat}, s₁.heap.get? b = some o → o.data = .dict es ep → H b = none := fun {b o es ep} e d => off b fun z => by
    subst z
    have : some o = some _ := e.symm.trans ha
    cases this
    nomatch d
  have kept : ∀ {b : Addr} {m : Str → Option Value}, s₁.heap.Ns b m → (hidT s₁.heap H).Ns b m := fun {b m} ⟨o, es, ep, e, d, r⟩ => ⟨o, es, ep, hidT_get e (dictOff e d), d, r⟩
  have kin : K.In (hidT s₁.heap H) := fun b o e => hidT_get (KX b o e) (Classical.byContradiction fun z => by
    cases just b z
    rw [his z] at e
    cases e)
  obtain ⟨mc, l1, l2⟩ := hlim
  have at0 : Env0 P w K mg (hidT s₁.heap H) callerA [] s₁ H :=
    { frames := rfl, mod := ⟨kin, kept hns, ⟨mb, kept hb, hbb⟩, ⟨mc, kept l1, l2⟩⟩, bs := fun b o e => of_hidT e, bsz := Nat.le_of_eq (hidT_size _ _), funs := trivial, frf := fun b z => (List.not_mem_nil z).elim, hok := ok, bare := .of_eq hg }
  refine codeAny_mono ((F _ kin (kept hns)).go callerA [] s₁ H ⟨[.ref a], []⟩ [.ref a] [.ref a] _ _ rfl hr at0 (hbind s₁ (.ref a)) (.cons rfl .nil) asked) ?_
  intro r s2 h2
  match r, h2 with
  | .error e, h2 => exact (hCX H e s2 h2).elim
  | .ok (.ret u), ⟨v, H2, os, bare, un, ok2, rel, ev⟩ =>
    have ev : v = V.bl true := ev
    subst ev
    have eu : u = Value.bool true := rel
    subst eu
    refine ⟨rfl, OldK.of_keep fun b o e => ?_, os, bare⟩
    rcases hO b with z | ⟨ob, xs, z⟩
    · exact un.keep b o e z (fun y => nomatch y) (fun y => nomatch y)
    · have e1 := (ok b _ z).1
      have e2 := (ok2 b _ (un.frzs b ob _ z)).1
      exact e2.trans (e1.symm.trans e)
theorem head_call (KX : K.In s₁.heap) (hns : s₁.heap.Ns mainGlobals mg) (hb : s₁.heap.Ns builtinsNs mb) (hbb : ∀ x : Str, x ≠ "__name__" → mb x = bootBuiltins x) (hlim : s₁.heap.NoLimit) (hg : s₁.gens = #[])
    (ha : s₁.heap.get? a = some { cls := .type "list", data := .seq vs.toArray }) (hi : IntsAre vs ns) (hl : ns.length ≤ sizeLine) (hr : Room k callerA)
    (F : ∀ base : Heap, K.In base → base.Ns mainGlobals mg → FnG P w K mg base CX k fa fd [x] sp) (hbind : ∀ (s : Shared) (u : Value), BindsTo s fd ⟨[u], []⟩ [(x, u)])
    (hsp : ∀ H : Hp, Only H → SqL K H a (ns.map V.int) → sp [.ref a] H (fun v _ => v = .bl true) fun _ _ _ => False)
    (hCX : ∀ H e s', CX [] H s₁ (fun _ _ _ => False) e s' → False) :
    codeAny (model P w) callerA (.call (.ref fa) ⟨[.ref a], []⟩) (HeadQ s₁) s₁ := by
  have rv := vals_ints hi
  cases hk : K.lookup a with
  | some o =>
    have e : some o = some _ := (KX a o hk).symm.trans ha
    cases e
    have hO : Only fun _ => none := fun _ => .inl rfl
    refine head_at KX hns hb hbb hlim hg ha hr F hbind hCX hO (hsp _ hO (.inr ⟨_, vs.toArray, _, hk, rfl, rfl, rfl, ?_, ?_⟩)) (fun _ _ z => nomatch z) (fun _ z => (z rfl).elim) fun z => (z rfl).elim
    · rw [List.size_toArray, hi.length]
      exact hl
    · rw [List.toList_toArray]
      exact rv
  | none =>
    obtain ⟨h0, e0⟩ : ∃ h0 : HO, h0 = .frz { cls := .type "list", data := .seq vs.toArray } (.lst (ns.map V.int)) := ⟨_, rfl⟩
    have here : ∀ {b u}, (if b = a then some h0 else none) = some u → b = a ∧ u = h0 := fun {b u} z => by
      split at z
      · exact ⟨‹_›, (Option.some.inj z).symm⟩
      · nomatch z
    have hO : Only fun b => if b = a then some h0 else none := fun b => by
      by_cases n : b = a
      · exact .inr ⟨_, _, (if_pos n).trans (congrArg some e0)⟩
      · exact .inl (if_neg n)
    refine head_at (H := fun b => if b = a then some h0 else none) KX hns hb hbb hlim hg ha hr F hbind hCX hO (hsp _ hO (.inl (.inr ⟨_, (if_pos rfl).trans (congrArg some e0)⟩))) (fun b u z => ?_) (fun b z => Classical.byContradiction fun n => z (if_neg n)) fun _ => hk
    obtain ⟨rfl, rfl⟩ := here z
    rw [e0]
    exact ⟨ha, by rw [List.length_map]; exact hl, vs, _, rv, ha⟩
end
theorem walk_G {l : PySem.W.OpenLaw} {n k : Nat} {q : Program} {loose : List Str} {XP : (Str → Option Value) → Heap → Prop} {YP : World → Heap → Prop} {d : DefRec} {K : Params → PySem.W.Frag} {CX : World → CXT} {sp : World → Sp} {x : Str}
    (hn : l.most = some n) (hn2 : n ≤ sizeLine) (hdf : d.params.defaults = []) (hr : Room k callerA) (hY : ∀ (w : World) (h : Heap), YP w h → (K w.params).In h)
    (F : ∀ (w : World) (mg : Str → Option Value) (fa : Addr) (h : Heap), (K w.params).In h → h.Ns mainGlobals mg → mg d.name = some (.ref fa) →
      ∃ fd : FuncData, (∀ (s : Shared) (u : Value), BindsTo s fd ⟨[u], []⟩ [(x, u)]) ∧ ∀ base : Heap, (K w.params).In base → base.Ns mainGlobals mg → FnG l.prog w (K w.params) mg base (CX w) k fa fd [x] (sp w))
    (hsp : ∀ (w : World) (H : Hp) (a : Addr) (ns : List Int), ns.length ≤ n → Only H → SqL (K w.params) H a (ns.map V.int) → sp w [.ref a] H (fun v _ => v = .bl true) fun _ _ _ => False)
    (hCX : ∀ (w : World) (H : Hp) (s : Shared) (e : Value) (s' : Shared), CX w [] H s (fun _ _ _ => False) e s' → False) :
    PySem.W.WalkO q loose XP YP l.row.toRowW d [] (fun f vs => PySem.call f vs) :=
  Att.attach_call hn hdf fun w _ s₁ mg _ fa _ _ _ _ a _ ns G Y _ _ _ hmg hobj hints hlen hg => by
    have kin := hY w _ Y
    obtain ⟨fd, binds, promised⟩ := F w mg fa _ kin G.T.g hmg
    exact head_call kin G.T.g G.T.b G.T.builtins G.T.nolimit hg hobj hints (Nat.le_trans hlen hn2) hr promised binds (fun H hO hS => hsp w H a ns hlen hO hS) fun H e s2 => hCX w H s₁ e s2
end Gen
/-! ### repr -/
namespace Gen
open PySem PySem.Spec PyProof.Rows L2
section
variable {X : Cx}
def rRepr (K : PySem.W.Frag) : List V → Hp → VK → Prop := fun vs H Q => ∃ a d, vs = [V.ref a] ∧ Dp K H (.ref a) d ∧ PyData.layable0 d = true ∧ d.intsShort 13 = true ∧ d.showable = true ∧ Q (.str d.shown) H
theorem cr_repr (gd : X.A.guards = some []) (hu : X.A.units + 80 < cLine) : CallR X (.builtin "repr") (rRepr X.K) := by
  intro pins s σ H vs us Q I r h
  obtain ⟨a, d, rfl, hd, h1, h2, h3, q⟩ := h
  obtain rfl := Vals.ref1 r
  obtain ⟨as, rd⟩ := Dp.reads I d (.ref a) (.ref a) hd rfl
  have dep := PyData.depth_le_of_layable h1
  have long := shown_le13 h1 h2
  exact repr_of_reads' rd h3 (PyData.noDict_hsm (PyData.hasDict_of_layable h1)) gd (by omega) (fun _ _ z => z) (fun h2 u tk k => ⟨.str _, H, I.kept k, ⟨_, rfl⟩, q⟩) (by rw [sizeLine_eq]; omega)
end
end Gen
namespace DL
open PySem PySem.Spec PyProof.Rows L2 Gen
def Rep (x : D) : Prop := D.shp 60 x = true ∧ PyData.layable0 x.pd = true ∧ x.pd.intsShort 13 = true ∧ x.pd.showable = true
def fRepr : List D → (D → Prop) → Prop
  | [.lst xs], P => Rep (.lst xs) ∧ P (.str (D.lst xs).pd.shown)
  | [.tup xs], P => Rep (.tup xs) ∧ P (.str (D.tup xs).pd.shown)
  | _, _ => False
theorem c_repr {K : PySem.W.Frag} : LiftC fRepr (rRepr K) := by
  intro ho N H c xs vs P Q hx h k
  match xs, h with
  | [.lst ds], h =>
    obtain ⟨v, rfl, r⟩ := rvA1 hx
    obtain ⟨a, ws, rfl, _, _, _⟩ := rv_lst r
    exact ⟨a, _, rfl, r.dp h.1.1, h.1.2.1, h.1.2.2.1, h.1.2.2.2, k _ h.2 _ H .refl (.str _)⟩
  | [.tup ds], h =>
    obtain ⟨v, rfl, r⟩ := rvA1 hx
    obtain ⟨a, ws, rfl, _, _, _⟩ := rv_tup r
    exact ⟨a, _, rfl, r.dp h.1.1, h.1.2.1, h.1.2.2.1, h.1.2.2.2, k _ h.2 _ H .refl (.str _)⟩
/-- == of two texts -/
def fEqS : D → D → (D → Prop) → Prop
  | .str a, .str b, P => P (.bl (decide (a = b)))
  | _, _, _ => False
theorem l_eqS : Lift2 fEqS rEq := by
  intro ho N H c x y v u P Q hx hy h k
  cases x <;> cases y <;> simp only [fEqS] at h <;> try exact h.elim
  rw [rv_str hx, rv_str hy]
  refine ⟨rfl, ?_⟩
  have e : ∀ a b : Str, decide (V.str a = V.str b) = decide (a = b) := fun a b => by simp
  rw [e]
  exact k _ h _ H .refl (.bl _)
/-! small data -/
def small (i : Int) : Prop := -999999999999 ≤ i ∧ i ≤ 999999999999
theorem log_small {i : Int} (h : small i) : i.natAbs.log2 < 40 := by
  obtain ⟨h1, h2⟩ := h
  by_cases n : i.natAbs = 0
  · rw [n]; decide
  · exact (Nat.log2_lt n).mpr (by omega)
theorem ints_pd : ∀ {ns : List Int}, (∀ i, i ∈ ns → small i) → PyData.canLayAll0 (D.pdA (ns.map D.int)) = true ∧ PyData.depthAll (D.pdA (ns.map D.int)) = 0 ∧ PyData.weightAll (D.pdA (ns.map D.int)) ≤ 42 * ns.length ∧ PyData.intsShortAll 13 (D.pdA (ns.map D.int)) = true ∧ PyData.showableAll (D.pdA (ns.map D.int)) = true
  | [], _ => ⟨rfl, rfl, Nat.le_refl _, rfl, rfl⟩
  | i :: ns, h => by
    obtain ⟨h1, h2, h3, h4, h5⟩ := ints_pd fun j hj => h j (List.mem_cons_of_mem _ hj)
    have hi := h i List.mem_cons_self
    have hl := log_small hi
    have hs : (PyData.int i).intsShort 13 = true := by
      simp only [PyData.intsShort, decide_eq_true_eq]
      exact PyData.shown_int_le2 (by have := hi.1; omega) (by have := hi.2; omega)
    have hw : (PyData.int i).weight ≤ 41 := by
      simp only [PyData.weight]
      split <;> omega
    refine ⟨?_, ?_, ?_, ?_, ?_⟩
    · simp only [List.map_cons, D.pdA, D.pd, PyData.canLayAll0, PyData.canLay0, h1, Bool.and_self]
    · simp only [List.map_cons, D.pdA, D.pd, PyData.depthAll, PyData.depth, h2, Nat.max_self]
    · simp only [List.map_cons, D.pdA, D.pd, PyData.weightAll, List.length_cons]
      omega
    · simp only [List.map_cons, D.pdA, D.pd, PyData.intsShortAll, hs, h4, Bool.and_self]
    · simp only [List.map_cons, D.pdA, D.pd, PyData.showableAll, PyData.showable, h5, Bool.and_true, decide_eq_true_eq]
      omega
theorem rep_ints {ns : List Int} (h : ∀ i, i ∈ ns → small i) (hl : ns.length ≤ 10000) : Rep (.lst (ns.map D.int)) ∧ Rep (.tup (ns.map D.int)) := by
  obtain ⟨h1, h2, h3, h4, h5⟩ := ints_pd h
  have e : (2 : Nat) ^ 20 = 1048576 := by decide
  have lay : ∀ d : PyData, d.canLay0 = true → d.depth ≤ 1 → d.weight ≤ 420000 → PyData.layable0 d = true := fun d a b c => by
    show (PyData.canLay0 d && decide (PyData.depth d ≤ 64) && decide (PyData.weight d ≤ 2 ^ 20)) = true
    rw [a, decide_eq_true (by omega), decide_eq_true (by omega)]
    rfl
  refine ⟨⟨shpA_ints _ _, lay _ ?_ ?_ ?_, ?_, ?_⟩, shpA_ints _ _, lay _ ?_ ?_ ?_, ?_, ?_⟩ <;>
    simp only [D.pd, PyData.canLay0, PyData.depth, PyData.weight, PyData.intsShort, PyData.showable] <;> first | assumption | omega
end DL
/-! ### defs by data that are promised where no guard is held -/
namespace DL
open PySem PySem.Spec PyProof.Rows L2 Gen
def dCallG (s : SpD) (dvs : List D) (xs : DAr) : DE := fun er δ P => xs er δ fun ys => s (ys ++ dvs) P noX
section
variable {X : Cx} {W : WX} {Ow O : List Nat} {e : Expr} {es : List Expr} {x : Str} {p pos : Pos} {ds : DAr}
theorem d_callG {k : Nat} {fa : Addr} {fd : FuncData} {ps : List Str} {sd : SpD} {dvs : List V} {dds : List D} {vds : List Value}
    (F : FnG X.prog X.w X.K X.mg X.base CX0 k fa fd ps (spOf sd)) (gd : X.A.guards = some []) (hr : Room k X.A) (hg : Gl X x) (hm : X.mg x = some (.ref fa)) (hk : PySem.W.keepIn X.K (.ref fa) = true) (hb : L2.Binds X.K fd ps vds) (hd : Vals dvs vds) (hv : ∀ ho H N, RpA ho H N dvs dds)
    (ha : PA X (e :: es) (upA W Ow O ds)) (hdb : (x == ("__debug__" : Str)) = false := by decide) (he : starEach (e :: es) X.env = (false, eval e X.env) :: starEach es X.env := by rfl) (hpl : (backTo pos (starEach es X.env)).any (·.1) = false := by rfl) :
    PE X (.Call (.Name x p) (e :: es) [] pos) (upE W Ow O (dCallG sd dds ds)) :=
  pe_weak (pe_callG (E := fun _ _ _ => False) F gd hr hg hm hk hb hd pass0 ha hdb he hpl) fun σ H Q ⟨g, δ, P, er, rl, w, q, kk⟩ => ⟨g, δ, _, er, rl, w, q, fun ys py vs H1 s1 r1 =>
    ⟨NM g O σ δ, g.ho, ys ++ dds, P, noX, (rl.ext s1).hc.all, (rl.ext s1).hc.hand, r1.append (hv _ _ _), py, fun y p v H' s2 z => kk y p v H' (s1.trans s2) z, fun C fs z => z.elim⟩⟩
end
section
variable {P : Program} {w : World} {K : PySem.W.Frag} {mg : Str → Option Value} {base : Heap}
theorem fnG_d {x qual : Str} {st : Stmt} {f : Addr} {fd : FuncData} {Nm ps : List Str} {k : Nat} {s : SpD} (F : Fun K x qual st f fd) (S : FnScope Nm ps (defScope st)) (O : List Nat) {Oe : List Nat} (d : DS)
    (len : ∀ ds P er, s ds P er → ds.length = ps.length) (hO : ∀ i, i ∈ O → ps.length ≤ i)
    (body : ∀ (cdv : Value) (A : Around) (outer : List Env) (sh : Shared) (H : Hp) (E : XK), (A.deeper (envOfC qual (defScope st) sh.heap.objs.size f cdv)).guards = some [] → Room k (A.deeper (envOfC qual (defScope st) sh.heap.objs.size f cdv)) →
      PSs (cxOf CX0 P w K mg base Nm qual (defScope st) f cdv A outer sh H E).nox (defBody st) (upS w0 [] O Oe d))
    (hd : ∀ ds P, s ds P noX → d { nx := fun _ => P .non, rt := P } (fun _ => noX) (dstart Nm ds))
    (hn : ∀ ds P er, s ds P er → s ds P noX) : FnG P w K mg base CX0 (k + 1) f fd ps (spOf s) :=
  okG F S (spOf_len len) fun cdv A outer sh H vs Q E gd hr hs => ⟨_, body cdv A outer sh H E gd hr, by
    obtain ⟨N, ho, ds, P, er, na, hh, r, hs, k, ke⟩ := hs
    exact ⟨_, _, _, _, { rel := rel_start na hh r (fun i hi => by rw [len _ _ _ hs]; exact hO i hi), ws := fun δ C fs he => (he : False).elim, rd := hd _ _ (hn _ _ _ hs), nx := fun δ' σ' H' rl p => k _ p _ H' rl.base .non, rt := fun y v H' e rp p => k _ p _ H' e rp, bk := fun _ _ _ _ z => z.elim, ct := fun _ _ _ _ z => z.elim }⟩⟩
/-- the law's own def, where it needs the guards: the rest is as where it doesn't -/
theorem lawG_d {x qual : Str} {st : Stmt} {f : Addr} {fd : FuncData} {Nm ps : List Str} {k : Nat} {st1 : Stmt} {rest : List Stmt} {Oe : List Nat} (F : Fun K x qual st f fd) (S : FnScope Nm ps (defScope st)) (hps : ps.length = 1) (hnm : 2 ≤ Nm.length) (O : List Nat) (hO : ∀ i, i ∈ O → 2 ≤ i) (eb : defBody st = st1 :: rest) (d : DS)
    (body : ∀ (cdv : Value) (A : Around) (outer : List Env) (sh : Shared) (H : Hp) (E : XK), (A.deeper (envOfC qual (defScope st) sh.heap.objs.size f cdv)).guards = some [] → Room k (A.deeper (envOfC qual (defScope st) sh.heap.objs.size f cdv)) →
      PS (cxOf CX0 P w K mg base Nm qual (defScope st) f cdv A outer sh H E).nox st1 (tAsg (tCall (spHand K) [] E0 (tCons (tVar 0) tNil)) (gName 1)) ∧ PSs (cxOf CX0 P w K mg base Nm qual (defScope st) f cdv A outer sh H E).nox rest (upS w0 [] O Oe d))
    (hd : ∀ s0 : V, d { nx := fun _ => False, rt := fun y => y = .bl true } (fun _ => noX) ((dstart Nm [.raw s0]).set 1 (some .hand))) : FnG P w K mg base CX0 (k + 1) f fd ps (spLaw K) := by
  refine okG F S (fun vs H Q E ⟨_, _, e, _⟩ => by rw [e, hps]; rfl) fun cdv A outer sh H vs Q E gd hr h => ?_
  obtain ⟨h1, h2⟩ := body cdv A outer sh H E gd hr
  rw [eb]
  exact ⟨_, pss_cons h1 h2, law_rd hnm O hO d hd h⟩
end
end DL
namespace Gen
open PySem PySem.Spec PyProof.Rows L2
theorem room_big {k : Nat} {A : Around} (r : Room k A) : A.units + 80 < cLine := by have := r.un; omega
/-- the promise of an own class's __init__ that keeps two arguments -/
def spIns2 (_ : PySem.W.Frag) (C : Addr) (f1 f2 : Str) : Sp := fun vs H Q _ => ∃ (a dx : Addr) (x y : V), vs = [.ref a, x, y] ∧ H a = some (.ins C dx []) ∧ Q .non (upd H a (.ins C dx [(f1, x), (f2, y)]))
end Gen
namespace DL
open PySem PySem.Spec PyProof.Rows L2 Gen
section
variable {X : Cx} {W : WX} {Ow O : List Nat} {e : Expr} {es : List Expr} {x : Str} {p pos : Pos} {ds : DAr} {d : DE}
/-! C(a, b): a new instance -/
def dMake2 (C : Addr) (f1 f2 : Str) (xs : DAr) : DE := fun er δ P => xs er δ fun ys => ∃ a b, ys = [a, b] ∧ P (.ins C [(f1, a), (f2, b)])
theorem d_make2 {k : Nat} {f C : Addr} {fd : FuncData} {ps : List Str} {f1 f2 : Str} (M : Mk X.K C f) (F : FnOk X.prog X.w X.K X.mg X.base CX0 k f fd ps (spIns2 X.K C f1 f2)) (hr : Room (k + 1) X.A) (hg : Gl X x) (hm : X.mg x = some (.ref C)) (hb : L2.Binds X.K fd ps [])
    (ha : PA X (e :: es) (upA W Ow O ds)) (hdb : (x == ("__debug__" : Str)) = false := by decide) (he : starEach (e :: es) X.env = (false, eval e X.env) :: starEach es X.env := by rfl) (hpl : (backTo pos (starEach es X.env)).any (·.1) = false := by rfl) :
    PE X (.Call (.Name x p) (e :: es) [] pos) (upE W Ow O (dMake2 C f1 f2 ds)) :=
  pe_weak (pe_make (E := fun _ _ _ => False) M F hr hg hm hb .nil pass0 ha hdb he hpl) fun σ H Q ⟨g, δ, P, er, rl, w, q, kk⟩ => ⟨g, δ, _, er, rl, w, q, fun ys ⟨a, b, ey, py⟩ vs H1 s1 r1 => by
    subst ey
    cases r1 with | @cons va _ _ _ ra r1 =>
    cases r1 with | @cons vb _ _ _ rb r1 =>
    cases r1
    intro n dx hn hd ne
    have s2 : Ext g.ho H1 (upd H1 dx (.own n)) := Ext.new hd
    have hn2 : (upd H1 dx (.own n)) n = none := by rw [upd_ne ne.symm]; exact hn
    refine ⟨n, dx, _, _, rfl, upd_same, rfl, ?_⟩
    rw [upd_upd]
    have s3 := s2.trans (Ext.new (o := .ins C dx [(f1, va), (f2, vb)]) hn2)
    have c1 := (rl.ext s1).hc
    exact kk _ py _ _ (s1.trans s3) (.ins (c1.off hn) upd_same (.cons (ra.ext s3) (.cons (rb.ext s3) .nil)))⟩
/-! the truth of a number, a row, None -/
def tru : D → Option Bool
  | .bl b => some b
  | .int i => some (!decide (i = 0))
  | .non => some false
  | .lst xs => some (!xs.isEmpty)
  | .tup xs => some (!xs.isEmpty)
  | _ => none
def dTr (d : DE) : DT := fun er δ P => d er δ fun x => ∃ k, tru x = some k ∧ P k
theorem rpA_empty {ho : Ho} {H : Hp} {N : Addr → Prop} {vs : List V} {ds : List D} (r : RpA ho H N vs ds) : vs.isEmpty = ds.isEmpty := by cases r <;> rfl
theorem d_truth (h : PE X e (upE W Ow O d)) (he : ∀ whole, isTrue e X.env whole = (do let v ← whole; standAt e.pos; holding [v] (truthy v)) := by intro _; rfl) : PT X e (upT W Ow O (dTr d)) :=
  pt_weak (pt_truth h he) fun σ H Q ⟨g, δ, P, er, r, w, q, k⟩ => ⟨g, δ, _, er, r, w, q, fun y ⟨b, ey, pb⟩ v H' s z => by
    refine ⟨b, ?_, k b pb H' s⟩
    cases y <;> simp only [tru] at ey <;> cases ey
    · cases z; rfl
    · cases z; rfl
    · rename_i j _
      cases z
      by_cases n : j = 0 <;> simp [TruV, n]
    · obtain ⟨a, vs, rfl, _, ea, ra⟩ := rv_lst (.inl z)
      exact .inl ⟨vs, SqL.of ea, by rw [rpA_empty ra]⟩
    · obtain ⟨a, vs, rfl, _, ea, ra⟩ := rp_tup z
      exact .inr (.inl ⟨vs, ea.sq, by rw [rpA_empty ra]⟩)⟩
end
end DL
set_option Elab.async false
set_option linter.all false
set_option maxRecDepth 100000
set_option maxHeartbeats 4000000
/-! ## More rules: a tuple taken once, or no time; t * k by data -/
namespace Gen
open PySem PySem.Spec PyProof.Rows L2
theorem mul_same (l : Addr) (items : Array Value) (n : Nat) (dd : Option Addr) (sl : Array (Option Value)) (u : Tok) :
    Meets (Builtin.«tuple.__mul__» ⟨[.ref l, .int 1 u], []⟩) (fun _ R s => s.heap.get? l = some { cls := .type "tuple", dict := dd, data := .seq items n, slots := sl } ∧ R (.ok (.ret (Value.ref l))) s) :=
  .of_wp fun prog w A R s h => by
    obtain ⟨hp, g, d, tk, os⟩ := s
    obtain ⟨hl, h⟩ := h
    have f1 := AutoSeq1.idx_int
    wp_walk using wpAny_loadPart' hl
    exact ⟨_, rfl, h⟩
theorem mul_none (l : Addr) (items : Array Value) (n : Nat) (dd : Option Addr) (sl : Array (Option Value)) (u : Tok) (hn : items.isEmpty = false) :
    Meets (Builtin.«tuple.__mul__» ⟨[.ref l, .int 0 u], []⟩) (fun _ R s => s.heap.get? l = some { cls := .type "tuple", dict := dd, data := .seq items n, slots := sl } ∧
      R (.ok (.ret (Value.ref s.heap.objs.size))) { s with heap := s.heap.push { cls := Value.type "tuple", data := Data.seq #[] } }) :=
  .of_wp fun prog w A R s h => by
    obtain ⟨hp, g, d, tk, os⟩ := s
    obtain ⟨hl, h⟩ := h
    have f1 := AutoSeq1.idx_int
    wp_walk using wpAny_loadPart' hl
    repeat (first
      | (refine wpAny_ite_false (decide_eq_false (by rw [hn]; decide)) ?_; wp_walk using wpAny_loadPart' hl)
      | (refine wpAny_ite_true (decide_eq_true (by decide)) ?_; wp_walk using wpAny_loadPart' hl))
    exact ⟨_, rfl, h⟩
/-- a plain tuple, not empty, so many times -/
def rRepA : R2 := fun x y H Q => ∃ l k xs, x = .ref l ∧ y = .int k ∧ TupN H l xs ∧ xs ≠ [] ∧ 0 ≤ k ∧ k ≤ 1000 ∧ xs.length ≤ 1000 ∧ (k = 1 → Q (.ref l) H) ∧
  ∀ (p : Addr) (o : Obj), H p = none → o.cls = .type "tuple" → o.dict = none → Q (.ref p) (upd H p (.frz o (.tup (List.replicate k.toNat xs).flatten)))
section
variable {X : Cx}
theorem op_repA : OpR X (binaryOp .Mult) rRepA := by
  intro pins s σ H x y v u Q I rx ry h
  obtain ⟨l, k, xs, rfl, rfl, hT, hne, h1, h2, hz, same, q⟩ := h
  cases rx
  obtain ⟨t, rfl⟩ := ry
  obtain ⟨its, r, ⟨⟨cls, dd, data, sl⟩, ho, hc, n, hd⟩, hs⟩ := I.tuple (hT.sq (K := X.K))
  simp only at hc hd
  subst hc hd
  have len : its.length = xs.length := r.length.symm
  have full : its.toArray.isEmpty = false := by
    cases its with
    | nil => exact (hne (List.eq_nil_of_length_eq_zero len.symm)).elim
    | cons a b => rfl
  have ty : s.TypeIs (.ref l) "tuple" := ⟨_, ho, rfl⟩
  have flen : (List.replicate k.toNat its).flatten.length ≤ sizeLine := by
    rw [PyProof.Rows.lm_len_rep_flat, len]
    exact Nat.le_trans (Nat.mul_le_mul (show k.toNat ≤ 1000 by omega) hz) (by decide)
  have made : ∀ (o : Obj) (h2 : Heap), h2 = s.heap.push o → o = { cls := .type "tuple", data := .seq (List.replicate k.toNat its).flatten.toArray } → EP X pins σ Q (.ref s.heap.objs.size) { s with heap := h2 } := fun o h2 e1 e2 => by
    subst e1 e2
    refine ⟨.ref s.heap.objs.size, _, I.laid (t' := s.toks) (o := .frz _ (.tup (List.replicate k.toNat xs).flatten)) (fun b ob z => Heap.get?_push_of_some _ z) (Nat.le_refl _) ⟨Heap.get?_push_size _ rfl, ?_⟩, rfl, q _ _ (I.hok.fresh (Nat.le_refl _)) rfl rfl⟩
    refine ⟨?_, _, r.rep k.toNat, IsTup.new _ _⟩
    rw [PyProof.Rows.lm_len_rep_flat]
    exact Nat.le_trans (Nat.mul_le_mul (show k.toNat ≤ 1000 by omega) hz) (by decide)
  have road := fun (C : wpAny (model X.prog X.w) X.A (call (.builtin "tuple.__mul__") [.ref l, .int k t]) (EP X pins σ Q) X.xe s) =>
    wpAny_binaryOp_repeat_ref (T := "tuple") (U := "int") (by decide) ty (fun s' => typeIs_int s' k t) noFill_tuple_mul F.fills_int_mul F.slot_int_rmul repeat_tuple F.slot_int_index.lookup
      (call_meets F.slot_int_rmul (typeIs_int s k t) F.entry_int_rmul (F.args_int_rmul_2 _ _) (int_rmul_tuple k t l its.toArray n dd sl) ⟨ho, rfl, ty, C⟩)
  refine road ?_
  by_cases k1 : k = 1
  · subst k1
    exact call_meets F.slot_tuple_mul ty F.entry_tuple_mul (F.args_tuple_mul_2 _ _) (mul_same l its.toArray n dd sl t) ⟨ho, ⟨.ref l, H, I, rfl, same rfl⟩⟩
  by_cases k0 : k = 0
  · subst k0
    exact call_meets F.slot_tuple_mul ty F.entry_tuple_mul (F.args_tuple_mul_2 _ _) (mul_none l its.toArray n dd sl t full) ⟨ho, made _ _ rfl rfl⟩
  have many : ((its.toArray.size : Nat) : Int) * k ≤ 1000000 := by
    rw [List.size_toArray, len]
    have := Int.mul_le_mul_of_nonneg_right (show ((xs.length : Nat) : Int) ≤ 1000 by omega) h1
    omega
  refine call_meets F.slot_tuple_mul ty F.entry_tuple_mul (F.args_tuple_mul_2 _ _) (tuple_mulW l its.toArray n dd sl k t ?_ ?_ ?_ (by omega) ?_ ?_) ⟨ho, ?_⟩
  · simp only [Bool.or_eq_false_iff, decide_eq_false_iff_not]
    omega
  · rw [full, Bool.false_or]
    exact beq_eq_false_iff_ne.mpr k1
  · rw [full, Bool.or_false]
    exact decide_eq_false (by omega)
  · unfold Builtin.Tuple.tupleTooMany
    rw [sizeLine_eq]
    exact decide_eq_false (by omega)
  · rw [size_rep, List.size_toArray]
    exact flen
  · rw [size_rep]
    exact made _ _ rfl rfl
end
end Gen
namespace DL
open PySem PySem.Spec PyProof.Rows L2 Gen
def fMul3 : D → D → (D → Prop) → Prop
  | .int i, .int j, P => ((-18446744073709551616 < i ∧ i < 18446744073709551616) ∨ (-18446744073709551616 < j ∧ j < 18446744073709551616)) ∧ P (.int (i * j))
  | .tup a, .int k, P => (a ≠ [] ∧ 0 ≤ k ∧ k ≤ 1000 ∧ a.length ≤ 1000) ∧ P (.tup (List.replicate k.toNat a).flatten)
  | _, _, _ => False
def rMul3 : R2 := fun x y H Q => rI CMul (fun i j => .int (i * j)) x y H Q ∨ rRepA x y H Q
theorem op_mul3 {X : Cx} : OpR X (binaryOp .Mult) rMul3 := OpR.or op_mul op_repA
theorem RpA.reps {ho : Ho} {H : Hp} {N : Addr → Prop} {vs : List V} {ds : List D} (r : RpA ho H N vs ds) : ∀ n : Nat, RpA ho H N (List.replicate n vs).flatten (List.replicate n ds).flatten
  | 0 => .nil
  | n + 1 => by
    rw [List.replicate_succ, List.replicate_succ, List.flatten_cons, List.flatten_cons]
    exact r.append (RpA.reps r n)
theorem l_mul3 : Lift2 fMul3 rMul3 := by
  intro ho N H c x y v u P Q hx hy h k
  cases x <;> cases y <;> simp only [fMul3] at h <;> try exact h.elim
  · refine .inl ⟨_, _, rv_int hx, rv_int hy, ?_, k _ h.2 _ H .refl (.int _)⟩
    rcases h.1 with z | z
    · exact cml z.1 z.2
    · exact cmr z.1 z.2
  · obtain ⟨a, vs, rfl, oa, ea, ra⟩ := rv_tup hx
    obtain ⟨⟨h1, h2, h3, h4⟩, h5⟩ := h
    refine .inr ⟨a, _, vs, rfl, rv_int hy, ea, fun z => h1 ?_, h2, h3, by rw [ra.length]; exact h4, fun z => ?_, fun p o hp hc hd => k _ h5 _ _ (Ext.new hp) (rp_newT c hp hc hd (ra.reps _))⟩
    · subst z
      cases ra
      rfl
    · obtain ⟨o, e1, e2, e3⟩ := ea
      subst z
      refine k _ h5 _ H .refl ?_
      have e : ∀ {α : Type} (xs : List α), (List.replicate (1 : Int).toNat xs).flatten = xs := fun xs => by
        show (List.replicate 1 xs).flatten = xs
        simp
      rw [e]
      exact .tup oa e1 e2 e3 ra
section
variable {X : Cx} {W : WX} {Ow O : List Nat} {e : Expr}
/-- a dict display of written numbers -/
theorem d_dict {t : TE} (h : PE X e t) (ht : ∀ (σ : L2.St) (H : Hp) (Q : VK), (∀ (p : Addr) (kvs : List (Key × V)), H p = none → Q (.ref p) (upd H p (.dK kvs))) → t σ H Q) : PE X e (upE W Ow O (dC .dk)) :=
  pe_weak h fun σ H Q ⟨g, δ, P, er, r, w, q, k⟩ => ht σ H Q fun p kvs hp => k _ q _ _ (Ext.new hp) (.dk (r.hc.off hp) upd_same)
theorem d_dict0 {t : TE} (h : PE X e t) (ht : ∀ (σ : L2.St) (H : Hp) (Q : VK), (∀ (p : Addr) (kvs : List (Key × V)), H p = none → Q (.ref p) (upd H p (.dK kvs))) → t σ H Q) : PE X e (upE W Ow O (dC .dk)) := d_dict h ht
end
end DL
set_option Elab.async false
set_option linter.all false
set_option maxRecDepth 100000
set_option maxHeartbeats 4000000
/-! ## len(set(xs)) -/
namespace Gen
open PySem PySem.Spec PyProof.Rows L2
section
variable {X : Cx}
def rLenSet (w : World) : List V → Hp → VK → Prop := fun vs H Q => ∃ (a : Addr) (S : Int → Bool) (n : Nat), vs = [V.ref a] ∧ H a = some (SetO w a S n) ∧ ∀ ks : List Int, ks.Nodup → (∀ k, k ∈ ks ↔ S k = true) → Q (.int (ks.length : Nat)) H
theorem cr_lenSet : CallR X (.builtin "len") (rLenSet X.w) := by
  intro pins s z H vs us Q I r h
  obtain ⟨a, S, n, rfl, hs, q⟩ := h
  rw [Vals.ref1 r]
  obtain ⟨o, es, ep, t, ho, hex, hd, _, nd, mm, lb, hf, hn, _⟩ := setO_get I hs
  have q1 := q (es.toList.map keyOf) nd fun k => (mm k).symm
  rw [List.length_map, Array.length_toList] at q1
  exact call_len_set ho hex hd hf (by unfold scanBound at lb; omega) ⟨.int _, H, I.tok _, ⟨_, rfl⟩, q1⟩
end
end Gen
namespace DL
open PySem PySem.Spec PyProof.Rows L2 Gen
section
variable {X : Cx} {W : WX} {Ow O : List Nat} {e : Expr} {ds : DAr} {pos : Pos}
def fLenSet : List D → (D → Prop) → Prop
  | [x], P => ∃ ns : List Int, x.seq = some (ns.map D.int) ∧ ns.length ≤ 1000 ∧ ∀ ks : List Int, ks.Nodup → (∀ k, k ∈ ks ↔ k ∈ ns) → P (.int (ks.length : Nat))
  | _, _ => False
theorem d_lenSet {p p1 pos1 : Pos} (hc : X.calm = true) (hg : Gl X "len") (hm : X.mg "len" = none) (hg2 : Gl X "set") (hm2 : X.mg "set" = none) (ha : PA X [e] (upAV W Ow O ds))
    (he : starEach [e] X.env = (false, eval e X.env) :: starEach [] X.env := by rfl) (hpl : (backTo pos1 (starEach [] X.env)).any (·.1) = false := by rfl)
    (he2 : starEach [.Call (.Name "set" p1) [e] [] pos1] X.env = (false, eval (.Call (.Name "set" p1) [e] [] pos1) X.env) :: starEach [] X.env := by rfl) (hpl2 : (backTo pos (starEach [] X.env)).any (·.1) = false := by rfl) :
    PE X (.Call (.Name "len" p) [.Call (.Name "set" p1) [e] [] pos1] [] pos) (upE W Ow O (dCB fLenSet ds)) :=
  pe_weak (pe_callB cr_lenSet hg hm (by decide +kernel) (pa_cons (pe_callTy (cr_setOf hc) hg2 hm2 (by decide +kernel) ha (by decide) (by decide) he hpl) pa_nil he2) (by decide) (by decide) he2 hpl2) fun σ H Q ⟨g, δ, P, er, r, w, q, k⟩ => ⟨g, δ, _, er, r, w, q, fun ys py vs H1 s1 z => by
    match ys, py with
    | [x], ⟨ns, e, hl, h⟩ =>
      obtain ⟨v, ev, zz⟩ := rvA1 z
      obtain ⟨a, ws, ea', ea, ra⟩ := rv_seq (K := X.K) zz e
      rw [ra.ints] at ea
      rw [ev, ea']
      refine ⟨a, ns, rfl, ea, hl, fun p c hp => ⟨p, _, c, rfl, upd_same, fun ks h1 h2 => ?_⟩⟩
      have s2 : Ext g.ho H1 (upd H1 p (SetO X.w p (fun j => decide (j ∈ ns)) c)) := Ext.new hp
      exact k _ (h ks h1 (fun j => by rw [h2]; simp)) _ _ (s1.trans s2) (.int _)⟩
end
end DL
set_option Elab.async false
set_option linter.all false
set_option maxRecDepth 100000
set_option maxHeartbeats 4000000
namespace My
open PySem PySem.Spec PyProof.Rows L2 Gen DL
def top (i : Nat) : Stmt := PySem.Challenge.pw_anyworths_k20_whole_few_unlike_worths_an.main.body.getD i (.Pass ⟨0, 0, 0, 0⟩)
abbrev s_i_BadCount : Stmt := inClass (top 3) 0
abbrev nm_i_BadCount : List Str := ["self", "most"]
abbrev ps_i_BadCount : List Str := ["self", "most"]
theorem sc_i_BadCount : FnScope nm_i_BadCount ps_i_BadCount (defScope s_i_BadCount) := ⟨rfl, rfl, rfl, by decide +kernel, rfl, by decide +kernel, by decide +kernel⟩
abbrev s_i_BadTotal : Stmt := inClass (top 4) 0
abbrev nm_i_BadTotal : List Str := ["self", "most"]
abbrev ps_i_BadTotal : List Str := ["self", "most"]
theorem sc_i_BadTotal : FnScope nm_i_BadTotal ps_i_BadTotal (defScope s_i_BadTotal) := ⟨rfl, rfl, rfl, by decide +kernel, rfl, by decide +kernel, by decide +kernel⟩
abbrev s_is_number : Stmt := top 11
abbrev nm_is_number : List Str := ["thing"]
abbrev ps_is_number : List Str := ["thing"]
theorem sc_is_number : FnScope nm_is_number ps_is_number (defScope s_is_number) := ⟨rfl, rfl, rfl, by decide +kernel, rfl, by decide +kernel, by decide +kernel⟩
abbrev s_is_whole : Stmt := top 12
abbrev nm_is_whole : List Str := ["thing", "low", "high"]
abbrev ps_is_whole : List Str := ["thing", "low", "high"]
theorem sc_is_whole : FnScope nm_is_whole ps_is_whole (defScope s_is_whole) := ⟨rfl, rfl, rfl, by decide +kernel, rfl, by decide +kernel, by decide +kernel⟩
abbrev s_check_people : Stmt := top 13
abbrev nm_check_people : List Str := ["people", "low"]
abbrev ps_check_people : List Str := ["people", "low"]
theorem sc_check_people : FnScope nm_check_people ps_check_people (defScope s_check_people) := ⟨rfl, rfl, rfl, by decide +kernel, rfl, by decide +kernel, by decide +kernel⟩
abbrev s_up : Stmt := top 14
abbrev nm_up : List Str := ["total", "people"]
abbrev ps_up : List Str := ["total", "people"]
theorem sc_up : FnScope nm_up ps_up (defScope s_up) := ⟨rfl, rfl, rfl, by decide +kernel, rfl, by decide +kernel, by decide +kernel⟩
abbrev s_check_count : Stmt := top 18
abbrev nm_check_count : List Str := ["count", "most"]
abbrev ps_check_count : List Str := ["count", "most"]
theorem sc_check_count : FnScope nm_check_count ps_check_count (defScope s_check_count) := ⟨rfl, rfl, rfl, by decide +kernel, rfl, by decide +kernel, by decide +kernel⟩
abbrev s_check_total : Stmt := top 19
abbrev nm_check_total : List Str := ["total", "most"]
abbrev ps_check_total : List Str := ["total", "most"]
theorem sc_check_total : FnScope nm_check_total ps_check_total (defScope s_check_total) := ⟨rfl, rfl, rfl, by decide +kernel, rfl, by decide +kernel, by decide +kernel⟩
abbrev s_check_coin : Stmt := top 20
abbrev nm_check_coin : List Str := ["coin"]
abbrev ps_check_coin : List Str := ["coin"]
theorem sc_check_coin : FnScope nm_check_coin ps_check_coin (defScope s_check_coin) := ⟨rfl, rfl, rfl, by decide +kernel, rfl, by decide +kernel, by decide +kernel⟩
abbrev s_room_at : Stmt := top 21
abbrev nm_room_at : List Str := ["total", "people"]
abbrev ps_room_at : List Str := ["total", "people"]
theorem sc_room_at : FnScope nm_room_at ps_room_at (defScope s_room_at) := ⟨rfl, rfl, rfl, by decide +kernel, rfl, by decide +kernel, by decide +kernel⟩
abbrev s_fewest_for : Stmt := top 22
abbrev nm_fewest_for : List Str := ["total", "people", "count", "greatest"]
abbrev ps_fewest_for : List Str := ["total", "people"]
theorem sc_fewest_for : FnScope nm_fewest_for ps_fewest_for (defScope s_fewest_for) := ⟨rfl, rfl, rfl, by decide +kernel, rfl, by decide +kernel, by decide +kernel⟩
abbrev s_greatest_coin : Stmt := top 23
abbrev nm_greatest_coin : List Str := ["total", "people"]
abbrev ps_greatest_coin : List Str := ["total", "people"]
theorem sc_greatest_coin : FnScope nm_greatest_coin ps_greatest_coin (defScope s_greatest_coin) := ⟨rfl, rfl, rfl, by decide +kernel, rfl, by decide +kernel, by decide +kernel⟩
abbrev s_least_total_with : Stmt := top 24
abbrev nm_least_total_with : List Str := ["coin", "people"]
abbrev ps_least_total_with : List Str := ["coin", "people"]
theorem sc_least_total_with : FnScope nm_least_total_with ps_least_total_with (defScope s_least_total_with) := ⟨rfl, rfl, rfl, by decide +kernel, rfl, by decide +kernel, by decide +kernel⟩
abbrev s_fewest_with : Stmt := top 25
abbrev nm_fewest_with : List Str := ["coin", "people"]
abbrev ps_fewest_with : List Str := ["coin", "people"]
theorem sc_fewest_with : FnScope nm_fewest_with ps_fewest_with (defScope s_fewest_with) := ⟨rfl, rfl, rfl, by decide +kernel, rfl, by decide +kernel, by decide +kernel⟩
abbrev s_greatest_unlike : Stmt := top 26
abbrev nm_greatest_unlike : List Str := ["count", "unlike", "people", "best", "many", "_"]
abbrev ps_greatest_unlike : List Str := ["count", "unlike", "people"]
theorem sc_greatest_unlike : FnScope nm_greatest_unlike ps_greatest_unlike (defScope s_greatest_unlike) := ⟨rfl, rfl, rfl, by decide +kernel, rfl, by decide +kernel, by decide +kernel⟩
abbrev s_greatest_grown : Stmt := top 27
abbrev nm_greatest_grown : List Str := ["best", "many", "people", "grown", "first", "coin"]
abbrev ps_greatest_grown : List Str := ["best", "many", "people"]
theorem sc_greatest_grown : FnScope nm_greatest_grown ps_greatest_grown (defScope s_greatest_grown) := ⟨rfl, rfl, rfl, by decide +kernel, rfl, by decide +kernel, by decide +kernel⟩
abbrev s_l_mix : Stmt := top 29
abbrev nm_l_mix : List Str := ["_law_number", "_law_turn", "_law_once", "_law_twice"]
abbrev ps_l_mix : List Str := ["_law_number", "_law_turn"]
theorem sc_l_mix : FnScope nm_l_mix ps_l_mix (defScope s_l_mix) := ⟨rfl, rfl, rfl, by decide +kernel, rfl, by decide +kernel, by decide +kernel⟩
abbrev s_l_hand : Stmt := top 30
abbrev nm_l_hand : List Str := ["_law_script", "_law_total", "_law_k", "_law_cell"]
abbrev ps_l_hand : List Str := ["_law_script"]
theorem sc_l_hand : FnScope nm_l_hand ps_l_hand (defScope s_l_hand) := ⟨rfl, rfl, rfl, by decide +kernel, rfl, by decide +kernel, by decide +kernel⟩
abbrev s_l_draw : Stmt := top 31
abbrev nm_l_draw : List Str := ["_law_hand_here", "_law_many", "_law_cell", "_law_rest"]
abbrev ps_l_draw : List Str := ["_law_hand_here", "_law_many"]
theorem sc_l_draw : FnScope nm_l_draw ps_l_draw (defScope s_l_draw) := ⟨rfl, rfl, rfl, by decide +kernel, rfl, by decide +kernel, by decide +kernel⟩
abbrev s_l_pick : Stmt := top 32
abbrev nm_l_pick : List Str := ["_law_hand_here", "_law_things"]
abbrev ps_l_pick : List Str := ["_law_hand_here", "_law_things"]
theorem sc_l_pick : FnScope nm_l_pick ps_l_pick (defScope s_l_pick) := ⟨rfl, rfl, rfl, by decide +kernel, rfl, by decide +kernel, by decide +kernel⟩
abbrev s_l_is_whole : Stmt := top 33
abbrev nm_l_is_whole : List Str := ["_law_thing"]
abbrev ps_l_is_whole : List Str := ["_law_thing"]
theorem sc_l_is_whole : FnScope nm_l_is_whole ps_l_is_whole (defScope s_l_is_whole) := ⟨rfl, rfl, rfl, by decide +kernel, rfl, by decide +kernel, by decide +kernel⟩
abbrev s_l_is_coins : Stmt := top 34
abbrev nm_l_is_coins : List Str := ["_law_thing", "_law_coin"]
abbrev ps_l_is_coins : List Str := ["_law_thing"]
theorem sc_l_is_coins : FnScope nm_l_is_coins ps_l_is_coins (defScope s_l_is_coins) := ⟨rfl, rfl, rfl, by decide +kernel, rfl, by decide +kernel, by decide +kernel⟩
abbrev s_l_up : Stmt := top 35
abbrev nm_l_up : List Str := ["_law_total", "_law_people"]
abbrev ps_l_up : List Str := ["_law_total", "_law_people"]
theorem sc_l_up : FnScope nm_l_up ps_l_up (defScope s_l_up) := ⟨rfl, rfl, rfl, by decide +kernel, rfl, by decide +kernel, by decide +kernel⟩
abbrev s_l_serves : Stmt := top 36
abbrev nm_l_serves : List Str := ["_law_coins", "_law_people", "_law_reached", "_law_coin"]
abbrev ps_l_serves : List Str := ["_law_coins", "_law_people"]
theorem sc_l_serves : FnScope nm_l_serves ps_l_serves (defScope s_l_serves) := ⟨rfl, rfl, rfl, by decide +kernel, rfl, by decide +kernel, by decide +kernel⟩
abbrev s_l_next : Stmt := top 37
abbrev nm_l_next : List Str := ["_law_total", "_law_people"]
abbrev ps_l_next : List Str := ["_law_total", "_law_people"]
theorem sc_l_next : FnScope nm_l_next ps_l_next (defScope s_l_next) := ⟨rfl, rfl, rfl, by decide +kernel, rfl, by decide +kernel, by decide +kernel⟩
abbrev s_l_great : Stmt := top 38
abbrev nm_l_great : List Str := ["_law_count", "_law_people", "_law_total", "_law_k"]
abbrev ps_l_great : List Str := ["_law_count", "_law_people"]
theorem sc_l_great : FnScope nm_l_great ps_l_great (defScope s_l_great) := ⟨rfl, rfl, rfl, by decide +kernel, rfl, by decide +kernel, by decide +kernel⟩
abbrev s_l_fewest : Stmt := top 39
abbrev nm_l_fewest : List Str := ["_law_total", "_law_people", "_law_reached", "_law_many"]
abbrev ps_l_fewest : List Str := ["_law_total", "_law_people"]
theorem sc_l_fewest : FnScope nm_l_fewest ps_l_fewest (defScope s_l_fewest) := ⟨rfl, rfl, rfl, by decide +kernel, rfl, by decide +kernel, by decide +kernel⟩
abbrev s_l_odd_people : Stmt := top 40
abbrev nm_l_odd_people : List Str := ["_law_hand_here"]
abbrev ps_l_odd_people : List Str := ["_law_hand_here"]
theorem sc_l_odd_people : FnScope nm_l_odd_people ps_l_odd_people (defScope s_l_odd_people) := ⟨rfl, rfl, rfl, by decide +kernel, rfl, by decide +kernel, by decide +kernel⟩
abbrev s_l_odd_number : Stmt := top 41
abbrev nm_l_odd_number : List Str := ["_law_hand_here", "_law_most"]
abbrev ps_l_odd_number : List Str := ["_law_hand_here", "_law_most"]
theorem sc_l_odd_number : FnScope nm_l_odd_number ps_l_odd_number (defScope s_l_odd_number) := ⟨rfl, rfl, rfl, by decide +kernel, rfl, by decide +kernel, by decide +kernel⟩
abbrev s_l_grown : Stmt := top 42
abbrev nm_l_grown : List Str := ["_law_rows", "_law_people", "_law_found", "_law_row", "_law_low", "_law_coin"]
abbrev ps_l_grown : List Str := ["_law_rows", "_law_people"]
theorem sc_l_grown : FnScope nm_l_grown ps_l_grown (defScope s_l_grown) := ⟨rfl, rfl, rfl, by decide +kernel, rfl, by decide +kernel, by decide +kernel⟩
abbrev s_l_told : Stmt := top 43
abbrev nm_l_told : List Str := ["_law_name", "_law_one", "_law_people", "e"]
abbrev ps_l_told : List Str := ["_law_name", "_law_one", "_law_people"]
theorem sc_l_told : FnScope nm_l_told ps_l_told (defScope s_l_told) := ⟨rfl, rfl, rfl, by decide +kernel, rfl, by decide +kernel, by decide +kernel⟩
abbrev s_l_best : Stmt := top 44
abbrev nm_l_best : List Str := ["_law_told_here", "_law_count", "_law_unlike", "_law_people", "_law_total", "_law_pool"]
abbrev ps_l_best : List Str := ["_law_told_here", "_law_count", "_law_unlike", "_law_people"]
theorem sc_l_best : FnScope nm_l_best ps_l_best (defScope s_l_best) := ⟨rfl, rfl, rfl, by decide +kernel, rfl, by decide +kernel, by decide +kernel⟩
abbrev s_l_small_right : Stmt := top 45
abbrev nm_l_small_right : List Str := ["_law_hand_here", "_law_people", "_law_count", "_law_rows", "_law_k", "_law_unlike", "_law_due", "_law_row"]
abbrev ps_l_small_right : List Str := ["_law_hand_here", "_law_people"]
theorem sc_l_small_right : FnScope nm_l_small_right ps_l_small_right (defScope s_l_small_right) := ⟨rfl, rfl, rfl, by decide +kernel, rfl, by decide +kernel, by decide +kernel⟩
abbrev s_l_great_right : Stmt := top 46
abbrev nm_l_great_right : List Str := ["_law_hand_here", "_law_people", "_law_count", "_law_unlike", "_law_best_here", "_law_turn", "_law_total", "_law_left", "_law_k", "_law_many"]
abbrev ps_l_great_right : List Str := ["_law_hand_here", "_law_people"]
theorem sc_l_great_right : FnScope nm_l_great_right ps_l_great_right (defScope s_l_great_right) := ⟨rfl, rfl, rfl, by decide +kernel, rfl, by decide +kernel, by decide +kernel⟩
abbrev s_l_coins_right : Stmt := top 47
abbrev nm_l_coins_right : List Str := ["_law_hand_here", "_law_people", "_law_most", "_law_found", "_law_rows", "_law_k", "_law_row", "_law_total", "_law_due", "_law_coin"]
abbrev ps_l_coins_right : List Str := ["_law_hand_here", "_law_people"]
theorem sc_l_coins_right : FnScope nm_l_coins_right ps_l_coins_right (defScope s_l_coins_right) := ⟨rfl, rfl, rfl, by decide +kernel, rfl, by decide +kernel, by decide +kernel⟩
abbrev s_l_far_right : Stmt := top 48
abbrev nm_l_far_right : List Str := ["_law_hand_here", "_law_people", "_law_total", "_law_coin", "_law_many", "_law_ahead"]
abbrev ps_l_far_right : List Str := ["_law_hand_here", "_law_people"]
theorem sc_l_far_right : FnScope nm_l_far_right ps_l_far_right (defScope s_l_far_right) := ⟨rfl, rfl, rfl, by decide +kernel, rfl, by decide +kernel, by decide +kernel⟩
abbrev s_l_refusals_right : Stmt := top 49
abbrev nm_l_refusals_right : List Str := ["_law_hand_here", "_law_people", "_law_odd_people_here", "_law_odd_coin", "_law_odd_unlike", "_law_odd_total", "_law_odd_count", "_law_name"]
abbrev ps_l_refusals_right : List Str := ["_law_hand_here", "_law_people"]
theorem sc_l_refusals_right : FnScope nm_l_refusals_right ps_l_refusals_right (defScope s_l_refusals_right) := ⟨rfl, rfl, rfl, by decide +kernel, rfl, by decide +kernel, by decide +kernel⟩
abbrev s_law : Stmt := top 50
abbrev nm_law : List Str := ["_law_script", "_law_hand_here", "_law_people"]
abbrev ps_law : List Str := ["_law_script"]
theorem sc_law : FnScope nm_law ps_law (defScope s_law) := ⟨rfl, rfl, rfl, by decide +kernel, rfl, by decide +kernel, by decide +kernel⟩
structure Txt (K : PySem.W.Frag) (mg : Str → Option Value) (cBadPeople : Addr) (cBadCount : Addr) (cBadTotal : Addr) (cBadCoin : Addr) (cBadUnlike : Addr) : Prop where
  d_is_number : Df K mg "is_number" s_is_number ps_is_number
  d_is_whole : Df K mg "is_whole" s_is_whole ps_is_whole
  d_check_people : DfD K mg "check_people" s_check_people ps_check_people [(V.int 1)]
  d_up : Df K mg "up" s_up ps_up
  d_check_count : Df K mg "check_count" s_check_count ps_check_count
  d_check_total : Df K mg "check_total" s_check_total ps_check_total
  d_check_coin : Df K mg "check_coin" s_check_coin ps_check_coin
  d_room_at : Df K mg "room_at" s_room_at ps_room_at
  d_fewest_for : Df K mg "fewest_for" s_fewest_for ps_fewest_for
  d_greatest_coin : Df K mg "greatest_coin" s_greatest_coin ps_greatest_coin
  d_least_total_with : Df K mg "least_total_with" s_least_total_with ps_least_total_with
  d_fewest_with : Df K mg "fewest_with" s_fewest_with ps_fewest_with
  d_greatest_unlike : Df K mg "greatest_unlike" s_greatest_unlike ps_greatest_unlike
  d_greatest_grown : Df K mg "greatest_grown" s_greatest_grown ps_greatest_grown
  d_l_mix : Df K mg "_law_mix" s_l_mix ps_l_mix
  d_l_hand : Df K mg "_law_hand" s_l_hand ps_l_hand
  d_l_draw : Df K mg "_law_draw" s_l_draw ps_l_draw
  d_l_pick : Df K mg "_law_pick" s_l_pick ps_l_pick
  d_l_is_whole : Df K mg "_law_is_whole" s_l_is_whole ps_l_is_whole
  d_l_is_coins : Df K mg "_law_is_coins" s_l_is_coins ps_l_is_coins
  d_l_up : Df K mg "_law_up" s_l_up ps_l_up
  d_l_serves : Df K mg "_law_serves" s_l_serves ps_l_serves
  d_l_next : Df K mg "_law_next" s_l_next ps_l_next
  d_l_great : Df K mg "_law_great" s_l_great ps_l_great
  d_l_fewest : Df K mg "_law_fewest" s_l_fewest ps_l_fewest
  d_l_odd_people : Df K mg "_law_odd_people" s_l_odd_people ps_l_odd_people
  d_l_odd_number : Df K mg "_law_odd_number" s_l_odd_number ps_l_odd_number
  d_l_grown : Df K mg "_law_grown" s_l_grown ps_l_grown
  d_l_told : Df K mg "_law_told" s_l_told ps_l_told
  d_l_best : Df K mg "_law_best" s_l_best ps_l_best
  d_l_small_right : Df K mg "_law_small_right" s_l_small_right ps_l_small_right
  d_l_great_right : Df K mg "_law_great_right" s_l_great_right ps_l_great_right
  d_l_coins_right : Df K mg "_law_coins_right" s_l_coins_right ps_l_coins_right
  d_l_far_right : Df K mg "_law_far_right" s_l_far_right ps_l_far_right
  d_l_refusals_right : Df K mg "_law_refusals_right" s_l_refusals_right ps_l_refusals_right
  d_law : Df K mg "law" s_law ps_law
  c_MOST_PEOPLE : ∃ u, mg "MOST_PEOPLE" = some u ∧ RelV (.int 5) u
  c_GREATEST_COIN : ∃ u, mg "GREATEST_COIN" = some u ∧ RelV (.int 1000000000) u
  c_GREATEST_TOTAL : ∃ u, mg "GREATEST_TOTAL" = some u ∧ RelV (.int 1000000000) u
  c_LEAST_PEOPLE : ∃ u, mg "LEAST_PEOPLE" = some u ∧ RelV (.int 2) u
  c_MOST_COINS : ∃ u, mg "MOST_COINS" = some u ∧ RelV (.int 12) u
  n_isinstance : mg "isinstance" = none
  n_int : mg "int" = none
  n_bool : mg "bool" = none
  n_range : mg "range" = none
  n_sum : mg "sum" = none
  n_enumerate : mg "enumerate" = none
  n_abs : mg "abs" = none
  n_len : mg "len" = none
  n_list : mg "list" = none
  n_sorted : mg "sorted" = none
  n_tuple : mg "tuple" = none
  n_set : mg "set" = none
  n_max : mg "max" = none
  n_min : mg "min" = none
  y_BadPeople : XP K mg "BadPeople" cBadPeople
  y_BadCount : XI K mg "BadCount" "BadCount.__init__" s_i_BadCount ps_i_BadCount cBadCount
  x_BadCount : XfC K cBadCount
  f_BadCount_most : PySem.W.findIn K (.ref cBadCount) "most" = some none
  y_BadTotal : XI K mg "BadTotal" "BadTotal.__init__" s_i_BadTotal ps_i_BadTotal cBadTotal
  x_BadTotal : XfC K cBadTotal
  f_BadTotal_most : PySem.W.findIn K (.ref cBadTotal) "most" = some none
  y_BadCoin : XP K mg "BadCoin" cBadCoin
  y_BadUnlike : XP K mg "BadUnlike" cBadUnlike
  m_BadPeople_BadPeople : PySem.W.exmOne K (.ref cBadPeople) (.ref cBadPeople) = some true
  m_BadPeople_BadCount : PySem.W.exmOne K (.ref cBadPeople) (.ref cBadCount) = some false
  m_BadPeople_BadTotal : PySem.W.exmOne K (.ref cBadPeople) (.ref cBadTotal) = some false
  m_BadPeople_BadCoin : PySem.W.exmOne K (.ref cBadPeople) (.ref cBadCoin) = some false
  m_BadPeople_BadUnlike : PySem.W.exmOne K (.ref cBadPeople) (.ref cBadUnlike) = some false
  m_BadCount_BadPeople : PySem.W.exmOne K (.ref cBadCount) (.ref cBadPeople) = some false
  m_BadCount_BadCount : PySem.W.exmOne K (.ref cBadCount) (.ref cBadCount) = some true
  m_BadCount_BadTotal : PySem.W.exmOne K (.ref cBadCount) (.ref cBadTotal) = some false
  m_BadCount_BadCoin : PySem.W.exmOne K (.ref cBadCount) (.ref cBadCoin) = some false
  m_BadCount_BadUnlike : PySem.W.exmOne K (.ref cBadCount) (.ref cBadUnlike) = some false
  m_BadTotal_BadPeople : PySem.W.exmOne K (.ref cBadTotal) (.ref cBadPeople) = some false
  m_BadTotal_BadCount : PySem.W.exmOne K (.ref cBadTotal) (.ref cBadCount) = some false
  m_BadTotal_BadTotal : PySem.W.exmOne K (.ref cBadTotal) (.ref cBadTotal) = some true
  m_BadTotal_BadCoin : PySem.W.exmOne K (.ref cBadTotal) (.ref cBadCoin) = some false
  m_BadTotal_BadUnlike : PySem.W.exmOne K (.ref cBadTotal) (.ref cBadUnlike) = some false
  m_BadCoin_BadPeople : PySem.W.exmOne K (.ref cBadCoin) (.ref cBadPeople) = some false
  m_BadCoin_BadCount : PySem.W.exmOne K (.ref cBadCoin) (.ref cBadCount) = some false
  m_BadCoin_BadTotal : PySem.W.exmOne K (.ref cBadCoin) (.ref cBadTotal) = some false
  m_BadCoin_BadCoin : PySem.W.exmOne K (.ref cBadCoin) (.ref cBadCoin) = some true
  m_BadCoin_BadUnlike : PySem.W.exmOne K (.ref cBadCoin) (.ref cBadUnlike) = some false
  m_BadUnlike_BadPeople : PySem.W.exmOne K (.ref cBadUnlike) (.ref cBadPeople) = some false
  m_BadUnlike_BadCount : PySem.W.exmOne K (.ref cBadUnlike) (.ref cBadCount) = some false
  m_BadUnlike_BadTotal : PySem.W.exmOne K (.ref cBadUnlike) (.ref cBadTotal) = some false
  m_BadUnlike_BadCoin : PySem.W.exmOne K (.ref cBadUnlike) (.ref cBadCoin) = some false
  m_BadUnlike_BadUnlike : PySem.W.exmOne K (.ref cBadUnlike) (.ref cBadUnlike) = some true
end My
set_option Elab.async false
set_option linter.all false
set_option maxRecDepth 100000
set_option maxHeartbeats 4000000
namespace My
open PySem PySem.Spec PyProof.Rows L2 Gen DL
section
variable {P : Program} {w : World} {K : PySem.W.Frag} {mg : Str → Option Value} {base : Heap} { cBadPeople cBadCount cBadTotal cBadCoin cBadUnlike : Addr}
/-! ### rows of coins that serve -/
def nxt (p t : Int) : Int := t / (p - 1) + 1
theorem nxt_pos {p t : Int} (hp : 2 ≤ p) (ht : 0 ≤ t) : 1 ≤ nxt p t := by
  have := Int.ediv_nonneg ht (show 0 ≤ p - 1 by omega)
  unfold nxt; omega
theorem nxt_mono {p s t : Int} (hp : 2 ≤ p) (h : s ≤ t) : nxt p s ≤ nxt p t := by
  have := Int.ediv_le_ediv (show 0 < p - 1 by omega) h
  unfold nxt; omega
theorem nxt_le {p t : Int} (hp : 2 ≤ p) (ht : 0 ≤ t) : nxt p t ≤ t + 1 := by
  have := Int.ediv_le_self (p - 1) ht
  unfold nxt; omega
theorem le_nxt {p t c : Int} (hp : 2 ≤ p) : c ≤ nxt p t ↔ (p - 1) * (c - 1) ≤ t := by
  unfold nxt
  have := Int.le_ediv_iff_mul_le (a := c - 1) (b := t) (show 0 < p - 1 by omega)
  rw [Int.mul_comm] at this
  omega
def upI (t p : Int) : Int := (t + p - 1) / p
theorem le_up {p t c : Int} (hp : 2 ≤ p) : c ≤ upI t p ↔ p * (c - 1) + 1 ≤ t := by
  unfold upI
  rw [Int.le_ediv_iff_mul_le (by omega), Int.mul_sub, Int.mul_comm c p]
  omega
theorem up_nxt {p s c : Int} (hp : 2 ≤ p) : c ≤ upI (s + c) p ↔ c ≤ nxt p s := by
  rw [le_up hp, le_nxt hp, Int.sub_mul]
  have : (1 : Int) * (c - 1) = c - 1 := Int.one_mul _
  omega
/-- from a sum s and a last coin l on, each coin no smaller than the one before and no greater than the room -/
def Grows (p : Int) : Int → Int → List Int → Prop
  | _, _, [] => True
  | s, l, c :: cs => l ≤ c ∧ c ≤ nxt p s ∧ Grows p (s + c) c cs
abbrev Row (p : Int) (r : List Int) : Prop := Grows p 0 1 r
theorem Grows.snoc {p : Int} {c : Int} : ∀ {r : List Int} {s l : Int}, Grows p s l (r ++ [c]) ↔ Grows p s l r ∧ r.getLastD l ≤ c ∧ c ≤ nxt p (s + r.sum)
  | [], s, l => by simp [Grows]
  | d :: r, s, l => by
    rw [List.cons_append, Grows, Grows, Grows.snoc, List.sum_cons, ← Int.add_assoc, List.getLastD_cons]
    simp only [and_assoc]
theorem Row.snoc {p c : Int} {r : List Int} : Row p (r ++ [c]) ↔ Row p r ∧ r.getLastD 1 ≤ c ∧ c ≤ nxt p r.sum := by
  have := Grows.snoc (p := p) (c := c) (r := r) (s := 0) (l := 1)
  rwa [Int.zero_add] at this
theorem Grows.pre {p : Int} : ∀ {x y : List Int} {s l : Int}, Grows p s l (x ++ y) → Grows p s l x
  | [], _, _, _, _ => trivial
  | _ :: _, _, _, _, h => ⟨h.1, h.2.1, Grows.pre h.2.2⟩
theorem Grows.low {p : Int} : ∀ {r : List Int} {s l : Int}, Grows p s l r → ∀ i, i ∈ r → l ≤ i
  | c :: r, s, l, h, i, hi => by
    rcases List.mem_cons.mp hi with rfl | hi
    · exact h.1
    · exact Int.le_trans h.1 (Grows.low h.2.2 i hi)
theorem Grows.rise {p : Int} : ∀ {r : List Int} {s l : Int}, Grows p s l r → r.Pairwise (· ≤ ·)
  | [], _, _, _ => .nil
  | c :: r, s, l, h => .cons (fun i hi => h.2.2.low i hi) h.2.2.rise
theorem sum_pos_of {ms : List Int} (h : ∀ i, i ∈ ms → 1 ≤ i) : (ms.length : Int) ≤ ms.sum := by
  induction ms with
  | nil => exact Int.le_refl 0
  | cons m ms ih =>
    rw [List.sum_cons, List.length_cons]
    have := h m List.mem_cons_self
    have := ih fun i hi => h i (List.mem_cons_of_mem _ hi)
    omega
theorem Row.pos {p : Int} {r : List Int} (h : Row p r) : 0 ≤ r.sum := by
  have := sum_pos_of h.low
  omega
theorem Row.len {p : Int} {r : List Int} (h : Row p r) : (r.length : Int) ≤ r.sum := sum_pos_of h.low
theorem last_mem {r : List Int} {l : Int} (h : r ≠ []) : r.getLastD l ∈ r := by
  rw [List.getLastD_eq_getLast?, List.getLast?_eq_some_getLast h]
  exact List.getLast_mem h
theorem last_le {r : List Int} (h : r.Pairwise (· ≤ ·)) {i l : Int} (hi : i ∈ r) : i ≤ r.getLastD l := by
  induction r generalizing l with
  | nil => nomatch hi
  | cons c r ih =>
    rw [List.getLastD_cons]
    cases h with | cons h1 h2 =>
    rcases List.mem_cons.mp hi with rfl | hi
    · by_cases e : r = []
      · subst e; exact Int.le_refl _
      · exact h1 _ (last_mem e)
    · exact ih h2 hi
/-- the last coin of a row is no greater than the room at its sum -/
theorem Row.last {p : Int} {r : List Int} (hp : 2 ≤ p) (h : Row p r) : r.getLastD 1 ≤ nxt p r.sum ∧ 1 ≤ r.getLastD 1 := by
  rcases List.eq_nil_or_concat r with rfl | ⟨a, c, rfl⟩
  · exact ⟨nxt_pos hp (by simp), by simp⟩
  · rw [List.concat_eq_append] at h ⊢
    obtain ⟨h1, h2, h3⟩ := Row.snoc.mp h
    have := h1.pos
    have low := h.low c (List.mem_append_right _ List.mem_cons_self)
    rw [List.getLastD_concat, List.sum_append]
    have := nxt_mono hp (show a.sum ≤ a.sum + [c].sum by simp; omega)
    omega
theorem Row.reps {p c : Int} {r : List Int} (hp : 2 ≤ p) (h : Row p r) (h1 : r.getLastD 1 ≤ c) (h2 : c ≤ nxt p r.sum) : ∀ n : Nat, Row p (r ++ List.replicate n c)
  | 0 => by simpa using h
  | n + 1 => by
    have ih := Row.reps hp h h1 h2 n
    have c1 : 1 ≤ c := Int.le_trans (h.last hp).2 h1
    rw [List.replicate_succ', ← List.append_assoc]
    refine Row.snoc.mpr ⟨ih, ?_, ?_⟩
    · cases n with
      | zero => simpa using h1
      | succ n => rw [List.replicate_succ', ← List.append_assoc, List.getLastD_concat]; exact Int.le_refl _
    · refine Int.le_trans h2 (nxt_mono hp ?_)
      rw [List.sum_append]
      have := sum_pos_of (ms := List.replicate n c) fun i hi => by rw [(List.mem_replicate.mp hi).2]; exact c1
      omega
/-! unlike worths -/
def dd : List Int → List Int
  | [] => []
  | x :: xs => if x ∈ xs then dd xs else x :: dd xs
theorem dd_mem : ∀ {r : List Int} {k : Int}, k ∈ dd r ↔ k ∈ r
  | [], k => by simp [dd]
  | x :: xs, k => by
    unfold dd
    split
    · rename_i h
      rw [dd_mem, List.mem_cons]
      exact ⟨.inr, fun z => z.elim (fun e => by subst e; exact h) id⟩
    · rw [List.mem_cons, List.mem_cons, dd_mem]
theorem dd_nodup : ∀ r : List Int, (dd r).Nodup
  | [] => .nil
  | x :: xs => by
    unfold dd
    split
    · exact dd_nodup xs
    · rename_i h
      exact List.nodup_cons.mpr ⟨fun z => h (dd_mem.mp z), dd_nodup xs⟩
def unl (r : List Int) : Nat := (dd r).length
theorem unl_of {r ks : List Int} (h1 : ks.Nodup) (h2 : ∀ k, k ∈ ks ↔ k ∈ r) : ks.length = unl r :=
  ((List.perm_ext_iff_of_nodup h1 (dd_nodup r)).mpr fun k => by rw [h2, dd_mem]).length_eq
theorem unl_len : ∀ r : List Int, unl r ≤ r.length
  | [] => Nat.le_refl _
  | x :: xs => by
    have := unl_len xs
    unfold unl at this ⊢
    rw [dd]
    split
    · rw [List.length_cons]; omega
    · rw [List.length_cons, List.length_cons]; omega
theorem unl_new {r : List Int} {c : Int} {n : Nat} (h : c ∉ r) (hn : 0 < n) : unl (r ++ List.replicate n c) = unl r + 1 := by
  rw [← unl_of (r := r ++ List.replicate n c) (ks := dd r ++ [c]), List.length_append]
  · rfl
  · rw [List.nodup_append]
    exact ⟨dd_nodup r, by simp, fun a ha b hb e => by
      cases List.mem_singleton.mp hb
      subst e
      exact h (dd_mem.mp ha)⟩
  · intro k
    rw [List.mem_append, List.mem_append, dd_mem, List.mem_singleton, List.mem_replicate]
    exact ⟨fun z => z.imp id fun e => ⟨by omega, e⟩, fun z => z.imp id fun e => e.2⟩
theorem unl_old {r : List Int} {c : Int} {n : Nat} (h : c ∈ r) : unl (r ++ List.replicate n c) = unl r := by
  refine (unl_of (dd_nodup _) fun k => ?_).symm
  rw [dd_mem, List.mem_append, List.mem_replicate]
  exact ⟨.inl, fun z => z.elim id fun e => by rw [e.2]; exact h⟩
theorem unl_reps (r : List Int) (c : Int) (n : Nat) : unl (r ++ List.replicate n c) ≤ unl r + 1 := by
  by_cases h : c ∈ r
  · rw [unl_old h]; omega
  · cases n with
    | zero => simp
    | succ n => rw [unl_new h (by omega)]; exact Nat.le_refl _
/-- a row that rises ends by a stretch of one worth, that stands nowhere before -/
theorem stretch {r : List Int} (h : r.Pairwise (· ≤ ·)) (hr : r ≠ []) : ∃ (a : List Int) (c : Int) (n : Nat), r = a ++ List.replicate n c ∧ 0 < n ∧ c ∉ a := by
  induction hl : r.length generalizing r with
  | zero => exact absurd (List.eq_nil_of_length_eq_zero hl) hr
  | succ k ih =>
    rcases List.eq_nil_or_concat r with rfl | ⟨b, c, rfl⟩
    · exact absurd rfl hr
    · rw [List.concat_eq_append] at *
      by_cases e : b = []
      · subst e
        exact ⟨[], c, 1, rfl, by decide, by simp⟩
      · obtain ⟨hb, _, hc⟩ := List.pairwise_append.mp h
        obtain ⟨a, d, n, rfl, hn, hd⟩ := ih hb e (by rw [List.length_append] at hl; simpa using hl)
        by_cases ed : d = c
        · subst ed
          exact ⟨a, d, n + 1, by rw [List.replicate_succ', List.append_assoc], by omega, hd⟩
        · refine ⟨a ++ List.replicate n d, c, 1, rfl, by decide, fun z => ?_⟩
          have dle : d ≤ c := hc d (List.mem_append_right _ (List.mem_replicate.mpr ⟨by omega, rfl⟩)) c List.mem_cons_self
          rcases List.mem_append.mp z with z | z
          · have := (List.pairwise_append.mp hb).2.2 c z d (List.mem_replicate.mpr ⟨by omega, rfl⟩)
            omega
          · exact ed (List.mem_replicate.mp z).2.symm
theorem sum_rep (n : Nat) (c : Int) : (List.replicate n c).sum = c * n := by
  induction n with
  | zero => simp
  | succ n ih => rw [List.replicate_succ, List.sum_cons, ih, Int.natCast_add, Int.mul_add]; simp; omega
/-! ### the best rows of a count, by how many unlike worths -/
structure Best (p : Int) (u m : Nat) (r : List Int) : Prop where
  row : Row p r
  len : r.length = m
  un : unl r ≤ u
  top : ∀ q : List Int, Row p q → q.length = m → unl q ≤ u → q.sum ≤ r.sum
theorem best_one {p : Int} (hp : 2 ≤ p) (m : Nat) : Best p 1 m (List.replicate m 1) where
  row := by
    have := Row.reps (p := p) (c := 1) (r := []) hp trivial (Int.le_refl _) (nxt_pos hp (Int.le_refl _)) m
    simpa using this
  len := List.length_replicate
  un := by
    have := unl_reps [] 1 m
    rwa [List.nil_append, show unl [] = 0 from rfl, Nat.zero_add] at this
  top q hq hl hu := by
    by_cases e : q = []
    · subst e
      cases hl
      exact Int.le_refl _
    · obtain ⟨a, c, n, rfl, hn, hc⟩ := stretch hq.rise e
      rw [unl_new hc hn] at hu
      have ha : a = [] := by
        cases a with
        | nil => rfl
        | cons x a =>
          have : 0 < unl (x :: a) := List.length_pos_of_mem (dd_mem.mpr List.mem_cons_self)
          omega
      subst ha
      rw [List.nil_append] at *
      have : c ≤ 1 := by
        cases n with
        | zero => omega
        | succ n =>
          have h2 := hq.2.1
          have : nxt p 0 = 1 := by unfold nxt; simp
          omega
      rw [List.length_replicate] at hl
      subst hl
      rw [sum_rep, sum_rep]
      exact Int.mul_le_mul_of_nonneg_right this (by omega)
/-- the best of what stands and of the rows that end by a stretch at their room -/
theorem best_up {p : Int} {u m : Nat} {r : List Int} {B : Nat → List Int} (hp : 2 ≤ p) (hB : ∀ j, j ≤ m → Best p u j (B j)) (hr : r = B m ∨ ∃ j, j < m ∧ r = B j ++ List.replicate (m - j) (nxt p (B j).sum))
    (h0 : (B m).sum ≤ r.sum) (h1 : ∀ j, j < m → (B j).sum + nxt p (B j).sum * ((m - j : Nat) : Int) ≤ r.sum) : Best p (u + 1) m r where
  row := by
    rcases hr with rfl | ⟨j, hj, rfl⟩
    · exact (hB m (Nat.le_refl _)).row
    · exact Row.reps hp (hB j (by omega)).row ((hB j (by omega)).row.last hp).1 (Int.le_refl _) _
  len := by
    rcases hr with rfl | ⟨j, hj, rfl⟩
    · exact (hB m (Nat.le_refl _)).len
    · rw [List.length_append, List.length_replicate, (hB j (by omega)).len]; omega
  un := by
    rcases hr with rfl | ⟨j, hj, rfl⟩
    · have := (hB m (Nat.le_refl _)).un; omega
    · have := (hB j (by omega)).un
      have := unl_reps (B j) (nxt p (B j).sum) (m - j)
      omega
  top q hq hl hu := by
    by_cases hu2 : unl q ≤ u
    · exact Int.le_trans ((hB m (Nat.le_refl _)).top q hq hl hu2) h0
    · have hne : q ≠ [] := fun e => by subst e; exact hu2 (Nat.zero_le _)
      obtain ⟨a, c, n, rfl, hn, hc⟩ := stretch hq.rise hne
      rw [unl_new hc hn] at hu
      rw [List.length_append, List.length_replicate] at hl
      obtain ⟨n', rfl⟩ : ∃ n', n = n' + 1 := ⟨n - 1, by omega⟩
      have hq2 := hq
      rw [List.replicate_succ, ← List.singleton_append, ← List.append_assoc] at hq2
      obtain ⟨ra, _, rc⟩ := Row.snoc.mp (Grows.pre hq2)
      have j1 : a.length ≤ m := by omega
      have b := (hB a.length j1).top a ra rfl (by omega)
      have b2 := h1 a.length (by omega)
      have b3 := nxt_mono hp b
      rw [List.sum_append, sum_rep]
      have e : m - a.length = n' + 1 := by omega
      rw [e] at b2
      have : c * ((n' + 1 : Nat) : Int) ≤ nxt p (B a.length).sum * ((n' + 1 : Nat) : Int) := Int.mul_le_mul_of_nonneg_right (by omega) (by omega)
      omega

end
end My
set_option Elab.async false
set_option linter.all false
set_option maxRecDepth 100000
set_option maxHeartbeats 4000000
namespace My
open PySem PySem.Spec PyProof.Rows L2 Gen DL
section
variable {P : Program} {w : World} {K : PySem.W.Frag} {mg : Str → Option Value} {base : Heap} { cBadPeople cBadCount cBadTotal cBadCoin cBadUnlike : Addr}
/-! ### the greatest totals, the fewest coins -/
def gr (p : Int) : Nat → Int
  | 0 => 0
  | k + 1 => gr p k + nxt p (gr p k)
theorem gr_pos {p : Int} (hp : 2 ≤ p) : ∀ k, 0 ≤ gr p k
  | 0 => Int.le_refl 0
  | k + 1 => by
    have := gr_pos hp k
    have := nxt_pos hp this
    show 0 ≤ gr p k + nxt p (gr p k)
    omega
theorem gr_lt {p : Int} (hp : 2 ≤ p) (k : Nat) : gr p k < gr p (k + 1) := by
  have := nxt_pos hp (gr_pos hp k)
  show gr p k < gr p k + nxt p (gr p k)
  omega
theorem gr_mono {p : Int} (hp : 2 ≤ p) {j k : Nat} (h : j ≤ k) : gr p j ≤ gr p k := by
  induction k with
  | zero => obtain rfl : j = 0 := by omega
            exact Int.le_refl _
  | succ k ih =>
    by_cases e : j = k + 1
    · subst e; exact Int.le_refl _
    · have := ih (by omega)
      have := gr_lt hp k
      omega
theorem row_gr {p : Int} (hp : 2 ≤ p) {r : List Int} (h : Row p r) : r.sum ≤ gr p r.length := by
  induction hl : r.length generalizing r with
  | zero => rw [List.eq_nil_of_length_eq_zero hl]; exact Int.le_refl 0
  | succ k ih =>
    rcases List.eq_nil_or_concat r with rfl | ⟨a, c, rfl⟩
    · cases hl
    · rw [List.concat_eq_append] at *
      obtain ⟨h1, _, h3⟩ := Row.snoc.mp h
      have e : a.length = k := by rw [List.length_append] at hl; simpa using hl
      have := ih h1 e
      have := nxt_mono hp this
      rw [List.sum_append]
      show a.sum + [c].sum ≤ gr p k + nxt p (gr p k)
      simp
      omega
theorem gr_row {p : Int} (hp : 2 ≤ p) : ∀ k : Nat, ∃ r, Row p r ∧ r.length = k ∧ r.sum = gr p k
  | 0 => ⟨[], trivial, rfl, rfl⟩
  | k + 1 => by
    obtain ⟨r, h1, h2, h3⟩ := gr_row hp k
    refine ⟨r ++ [nxt p r.sum], Row.snoc.mpr ⟨h1, (h1.last hp).1, Int.le_refl _⟩, by rw [List.length_append, h2]; rfl, ?_⟩
    rw [List.sum_append, h3]
    show gr p k + [nxt p (gr p k)].sum = _
    simp [gr]
/-- any total up to the greatest of k coins is one of at most k coins -/
theorem reach {p : Int} (hp : 2 ≤ p) : ∀ (k : Nat) (t : Int), 0 ≤ t → t ≤ gr p k → ∃ r, Row p r ∧ r.length ≤ k ∧ r.sum = t
  | 0, t, h0, h => by
    obtain rfl : t = 0 := by
      have : gr p 0 = 0 := rfl
      omega
    exact ⟨[], trivial, Nat.le_refl _, rfl⟩
  | k + 1, t, h0, h => by
    by_cases e : t ≤ gr p k
    · obtain ⟨r, h1, h2, h3⟩ := reach hp k t h0 e
      exact ⟨r, h1, by omega, h3⟩
    · have gk := gr_pos hp k
      -- the greatest last coin
      obtain ⟨d, hd⟩ : ∃ d, d = upI t p := ⟨_, rfl⟩
      have d1 : p * (d - 1) + 1 ≤ t := by
        have := (le_up (c := d) hp).mp (by rw [hd]; exact Int.le_refl _)
        exact this
      have d2 : t < p * d + 1 := by
        by_cases z : t < p * d + 1
        · exact z
        · have := (le_up (t := t) (c := d + 1) hp).mpr (by rw [show d + 1 - 1 = d by omega]; omega)
          rw [← hd] at this
          omega
      have d3 : 1 ≤ d := by
        rw [hd, le_up hp]
        have : p * (1 - 1) = 0 := by simp
        omega
      have dn : d ≤ nxt p (t - d) := by
        rw [le_nxt hp, Int.sub_mul]
        rw [Int.mul_sub] at d1 ⊢
        omega
      have t2 : t - d ≤ gr p k := by
        by_cases z : t - d ≤ gr p k
        · exact z
        · -- then the last coin would be too small
          have hk : t ≤ gr p k + nxt p (gr p k) := h
          have : d + 1 ≤ nxt p (gr p k) := by omega
          rw [le_nxt hp, Int.sub_mul, show d + 1 - 1 = d by omega] at this
          omega
      have t0 : 0 ≤ t - d := by
        have : p * (d - 1) = (p - 1) * (d - 1) + (d - 1) := by rw [Int.sub_mul]; omega
        have : 0 ≤ (p - 1) * (d - 1) := Int.mul_nonneg (by omega) (by omega)
        omega
      obtain ⟨r, h1, h2, h3⟩ := reach hp k (t - d) t0 t2
      refine ⟨r ++ [d], Row.snoc.mpr ⟨h1, ?_, by rw [h3]; exact dn⟩, by rw [List.length_append]; simpa using h2, by rw [List.sum_append, h3]; simp⟩
      -- no coin of the row is greater
      rcases List.eq_nil_or_concat r with rfl | ⟨a, c, rfl⟩
      · exact d3
      · rw [List.concat_eq_append] at *
        rw [List.getLastD_concat]
        obtain ⟨_, _, q3⟩ := Row.snoc.mp h1
        rw [List.sum_append] at h3
        simp at h3
        rw [hd, le_up hp]
        rw [le_nxt hp, Int.sub_mul] at q3
        omega
def IsFew (p t : Int) (k : Nat) : Prop := t ≤ gr p k ∧ ∀ j, j < k → gr p j < t
theorem IsFew.one {p t : Int} {j k : Nat} (h1 : IsFew p t j) (h2 : IsFew p t k) : j = k := by
  rcases Nat.lt_trichotomy j k with h | h | h
  · have := h2.2 j h
    have := h1.1
    omega
  · exact h
  · have := h1.2 k h
    have := h2.1
    omega
theorem few_le {p t : Int} {k : Nat} (hp : 2 ≤ p) (h : IsFew p t k) {r : List Int} (hr : Row p r) (ht : t ≤ r.sum) : k ≤ r.length := by
  by_cases e : r.length < k
  · have := h.2 _ e
    have := row_gr hp hr
    omega
  · omega
theorem few_row {p t : Int} {k : Nat} (hp : 2 ≤ p) (h : IsFew p t k) (t0 : 0 ≤ t) : ∃ r, Row p r ∧ r.length = k ∧ r.sum = t := by
  obtain ⟨r, h1, h2, h3⟩ := reach hp k t t0 h.1
  have := few_le hp h h1 (by omega)
  exact ⟨r, h1, by omega, h3⟩
/-- what stands ahead of a coin in a row -/
theorem ahead {p c : Int} {r : List Int} (hp : 2 ≤ p) (h : Row p r) (hc : c ∈ r) : ∃ a b : List Int, r = a ++ c :: b ∧ Row p a ∧ (p - 1) * (c - 1) ≤ a.sum ∧ 0 ≤ b.sum := by
  obtain ⟨a, b, rfl⟩ := List.append_of_mem hc
  have h2 := h
  rw [← List.singleton_append, ← List.append_assoc] at h2
  obtain ⟨h3, _, h4⟩ := Row.snoc.mp (Grows.pre h2)
  refine ⟨a, b, rfl, h3, (le_nxt hp).mp h4, ?_⟩
  have := sum_pos_of (ms := b) fun i hi => h.low i (List.mem_append_right _ (List.mem_cons_of_mem _ hi))
  omega
theorem with_sum {p c : Int} {r : List Int} (hp : 2 ≤ p) (h : Row p r) (hc : c ∈ r) : p * (c - 1) + 1 ≤ r.sum := by
  obtain ⟨a, b, rfl, _, h2, h3⟩ := ahead hp h hc
  rw [List.sum_append, List.sum_cons]
  rw [Int.sub_mul] at h2
  omega
theorem with_len {p c : Int} {r : List Int} {k : Nat} (hp : 2 ≤ p) (hk : IsFew p ((p - 1) * (c - 1)) k) (h : Row p r) (hc : c ∈ r) : k + 1 ≤ r.length := by
  obtain ⟨a, b, rfl, h1, h2, _⟩ := ahead hp h hc
  have := few_le hp hk h1 h2
  rw [List.length_append, List.length_cons]
  omega
theorem with_row {p c : Int} {k : Nat} (hp : 2 ≤ p) (hc : 1 ≤ c) (hk : IsFew p ((p - 1) * (c - 1)) k) : ∃ r, Row p r ∧ c ∈ r ∧ r.length = k + 1 ∧ r.sum = p * (c - 1) + 1 := by
  have t0 : 0 ≤ (p - 1) * (c - 1) := Int.mul_nonneg (by omega) (by omega)
  obtain ⟨r, h1, h2, h3⟩ := few_row hp hk t0
  have e : nxt p ((p - 1) * (c - 1)) = c := by
    unfold nxt
    rw [Int.mul_ediv_cancel_left _ (by omega)]
    omega
  refine ⟨r ++ [c], Row.snoc.mpr ⟨h1, ?_, by rw [h3, e]; exact Int.le_refl _⟩, List.mem_append_right _ List.mem_cons_self, by rw [List.length_append, h2]; rfl, ?_⟩
  · have := (h1.last hp).1
    rwa [h3, e] at this
  · rw [List.sum_append, h3, Int.sub_mul]
    simp
    omega
/-- the greatest last coin of a total -/
theorem last_top {p t : Int} {r : List Int} (hp : 2 ≤ p) (h : Row p r) (hr : r ≠ []) (ht : r.sum = t) : r.getLastD 1 ≤ upI t p := by
  rcases List.eq_nil_or_concat r with rfl | ⟨a, c, rfl⟩
  · exact absurd rfl hr
  · rw [List.concat_eq_append] at *
    rw [List.getLastD_concat, ← ht, List.sum_append]
    obtain ⟨_, _, h3⟩ := Row.snoc.mp h
    have := (up_nxt hp).mpr h3
    simpa using this
theorem last_row {p t : Int} (hp : 2 ≤ p) (t1 : 1 ≤ t) : ∃ r, Row p r ∧ r ≠ [] ∧ r.sum = t ∧ r.getLastD 1 = upI t p := by
  obtain ⟨c, hc⟩ : ∃ c, c = upI t p := ⟨_, rfl⟩
  have c1 : 1 ≤ c := by
    rw [hc, le_up hp]
    have : p * (1 - 1) = 0 := by simp
    omega
  have ct : c ≤ t := by
    have := (le_up (c := c) (t := t) hp).mp (by rw [hc]; exact Int.le_refl _)
    have e : p * (c - 1) = (p - 1) * (c - 1) + (c - 1) := by rw [Int.sub_mul]; omega
    have : 0 ≤ (p - 1) * (c - 1) := Int.mul_nonneg (by omega) (by omega)
    omega
  have ones := Row.reps (p := p) (c := 1) (r := []) hp trivial (Int.le_refl _) (nxt_pos hp (Int.le_refl _)) (t - c).toNat
  rw [List.nil_append] at ones
  have es : (List.replicate (t - c).toNat (1 : Int)).sum = t - c := by rw [sum_rep]; omega
  refine ⟨List.replicate (t - c).toNat 1 ++ [c], Row.snoc.mpr ⟨ones, ?_, ?_⟩, by simp, by rw [List.sum_append, es]; simp, by rw [List.getLastD_concat]; exact hc⟩
  · by_cases e : (t - c).toNat = 0
    · rw [e]; exact c1
    · have : (List.replicate (t - c).toNat (1 : Int)).getLastD 1 ∈ List.replicate (t - c).toNat (1 : Int) := last_mem (by simpa using e)
      rw [(List.mem_replicate.mp this).2]
      exact c1
  · rw [es, ← up_nxt hp, show t - c + c = t by omega, hc]
    exact Int.le_refl _

end
end My
set_option Elab.async false
set_option linter.all false
set_option maxRecDepth 100000
set_option maxHeartbeats 4000000
namespace My
open PySem PySem.Spec PyProof.Rows L2 Gen DL
section
variable {P : Program} {w : World} {K : PySem.W.Frag} {mg : Str → Option Value} {base : Heap} { cBadPeople cBadCount cBadTotal cBadCoin cBadUnlike : Addr}
theorem ok_i_BadCount {f : Addr} {fd : FuncData} (F : Fun K "__init__" "BadCount.__init__" s_i_BadCount f fd) (T : Txt K mg cBadPeople cBadCount cBadTotal cBadCoin cBadUnlike) : FnOk P w K mg base CX0 1 f fd ps_i_BadCount (spI1 K cBadCount "most") := by
  refine F.ok (k := 0) sc_i_BadCount (fun vs H Q E h => by obtain ⟨_, _, rfl, _⟩ := h; rfl) (fun cdv A outer s H vs Q E hr h => ?_)
  refine ⟨_, (pss_one (ps_ost (pv 0) (pv 1))), ?_⟩
  obtain ⟨a, v, rfl, ha, ox, hn, q⟩ := h
  refine ⟨_, rfl, _, rfl, a, _, rfl, ox, hn, .inl ⟨ha, fun dx hx ne => q dx hx ne⟩⟩
theorem okH_i_BadCount {f : Addr} {fd : FuncData} (F : Fun K "__init__" "BadCount.__init__" s_i_BadCount f fd) (T : Txt K mg cBadPeople cBadCount cBadTotal cBadCoin cBadUnlike) : L2H.FnH P w K mg base CX0 1 f fd ps_i_BadCount (spI1 K cBadCount "most") := by
  obtain ⟨oc, od, kV, doc, pm, an, cdv, ct, osl, rfl, lk, hcd⟩ := F.ex
  refine L2H.fn_ofH (k := 0) lk hcd sc_i_BadCount (fun vs H Q E h => by obtain ⟨_, _, rfl, _⟩ := h; rfl) (fun A outer s H vs Q E p hot hr h => ?_)
  refine ⟨_, (pss_one (ps_ost (pv 0) (pv 1))), ?_⟩
  obtain ⟨a, v, rfl, ha, ox, hn, q⟩ := h
  refine ⟨_, rfl, _, rfl, a, _, rfl, ox, hn, .inl ⟨ha, fun dx hx ne => q dx hx ne⟩⟩
theorem ok_i_BadTotal {f : Addr} {fd : FuncData} (F : Fun K "__init__" "BadTotal.__init__" s_i_BadTotal f fd) (T : Txt K mg cBadPeople cBadCount cBadTotal cBadCoin cBadUnlike) : FnOk P w K mg base CX0 1 f fd ps_i_BadTotal (spI1 K cBadTotal "most") := by
  refine F.ok (k := 0) sc_i_BadTotal (fun vs H Q E h => by obtain ⟨_, _, rfl, _⟩ := h; rfl) (fun cdv A outer s H vs Q E hr h => ?_)
  refine ⟨_, (pss_one (ps_ost (pv 0) (pv 1))), ?_⟩
  obtain ⟨a, v, rfl, ha, ox, hn, q⟩ := h
  refine ⟨_, rfl, _, rfl, a, _, rfl, ox, hn, .inl ⟨ha, fun dx hx ne => q dx hx ne⟩⟩
theorem okH_i_BadTotal {f : Addr} {fd : FuncData} (F : Fun K "__init__" "BadTotal.__init__" s_i_BadTotal f fd) (T : Txt K mg cBadPeople cBadCount cBadTotal cBadCoin cBadUnlike) : L2H.FnH P w K mg base CX0 1 f fd ps_i_BadTotal (spI1 K cBadTotal "most") := by
  obtain ⟨oc, od, kV, doc, pm, an, cdv, ct, osl, rfl, lk, hcd⟩ := F.ex
  refine L2H.fn_ofH (k := 0) lk hcd sc_i_BadTotal (fun vs H Q E h => by obtain ⟨_, _, rfl, _⟩ := h; rfl) (fun A outer s H vs Q E p hot hr h => ?_)
  refine ⟨_, (pss_one (ps_ost (pv 0) (pv 1))), ?_⟩
  obtain ⟨a, v, rfl, ha, ox, hn, q⟩ := h
  refine ⟨_, rfl, _, rfl, a, _, rfl, ox, hn, .inl ⟨ha, fun dx hx ne => q dx hx ne⟩⟩
/-! ### kinds of things -/
/-- a thing that isinstance can tell -/
def kn (x : D) : Bool := (tbInt x).isSome
def isNum : D → Bool
  | .int _ => true
  | _ => false
def whole (x : D) (lo hi : Int) : Bool :=
  match x with
  | .int i => decide (lo ≤ i) && decide (i ≤ hi)
  | _ => false
/-- a thing and, where it is a row, what stands in it: all can be told -/
def Arg (x : D) : Prop := kn x = true ∧ ∀ xs, x.seq = some xs → ∀ y, y ∈ xs → kn y = true
theorem kn_int (i : Int) : kn (.int i) = true := rfl
theorem kn_ints {ns : List Int} {y : D} (h : y ∈ ns.map D.int) : kn y = true := by
  obtain ⟨i, _, rfl⟩ := List.mem_map.mp h
  rfl
theorem arg_ints {x : D} {ns : List Int} (h : x.seq = some (ns.map D.int)) : Arg x := by
  refine ⟨?_, fun xs e y hy => ?_⟩
  · cases x <;> first | rfl | (simp only [D.seq] at h; cases h)
  · rw [h] at e
    cases e
    exact kn_ints hy

def s_d_is_number : SpD := fun ds P _ => ∃ x, ds = [x] ∧ kn x = true ∧ P (.bl (isNum x))
theorem len_d_is_number : ∀ ds P er, s_d_is_number ds P er → ds.length = 1 := by rintro _ _ _ ⟨_, rfl, _⟩; rfl
theorem n0_is_number : ∀ ds P er, s_d_is_number ds P er → s_d_is_number ds P noX := fun _ _ _ h => h
theorem ok_is_number {f : Addr} {fd : FuncData} (F : Fun K "is_number" "is_number" s_is_number f fd) (T : Txt K mg cBadPeople cBadCount cBadTotal cBadCoin cBadUnlike) : FnOk P w K mg base CX0 1 f fd ps_is_number (spOf (s_d_is_number)) := by
  refine fn0_d (k := 0) (Oe := []) F sc_is_number [] _ (len_d_is_number) (by decide) (fun cdv A outer sh H E hr => (s_one (s_ret (O2 := []) (fun _ z => nomatch z) (d_andV (d_callB call_isi c_isiInt (by rfl) T.n_isinstance (by decide +kernel) (v_cons (toV (d_var (i := 0) (by decide) (pv 0))) (v_cons (toV (d_c (y := .ty "int") (fun _ _ _ => .ty _) (pe_bltn (v := .ty "int") (by rfl) T.n_int (by decide +kernel) rfl))) v_nil))) (d_one (d_notV (d_callB call_isi c_isiBool (by rfl) T.n_isinstance (by decide +kernel) (v_cons (toV (d_var (i := 0) (by decide) (pv 0))) (v_cons (toV (d_c (y := .ty "bool") (fun _ _ _ => .ty _) (pe_bltn (v := .ty "bool") (by rfl) T.n_bool (by decide +kernel) rfl))) v_nil))))))) (by decide))) ?_ n0_is_number
  rintro ds P ⟨x, rfl, hk, q⟩
  simp only [fLenSet, fMul3, dTr, tru, dAsgT, gS, dMake2, dCBK, fMinD, dCallG, fRepr, fEqS, dSq, dAsg, dNx, dExp, dRet, dRetN, dIfS, dBk, dCt, dAppend, dInsert, dRemove, dPopAt, dSetAt, dRaise, dRaise0, dRaiseL, dVar, dC, dOp, dT, dChain, dNotT, dAndT, dOrT, dAndV, dOrV, dNotV, dIf, dNeg, dNil, dCons, dCB, dTup, dLst, dCall, dCallV, dCallF, dFld, dNoPart, dPart, dSl, dIsSeq, dBM, dTM, dXf, dYes, fSub, fDiv, fMod, fPow, fAdd, fCat, fMul, fRep, fLt, fLe, fGt, fGe, fIs, fIsNot, fIx, fSl, fSlL, fLen, fList, fTuple, fMax2, fMin2, fMax, fMin, fAbs, fInt, fIsi, fIsiN, fIsiC, gN, gT, gT0, gTC, diSeq, diRng1, diRng2, diEnum, dstart, De.off, exD, suiteD, List.map_cons, List.map_nil, List.length_cons, List.length_nil, Nat.reduceAdd, Nat.reduceSub, List.replicate_succ, List.replicate_zero, List.getElem?_cons_zero, List.getElem?_cons_succ, List.set_cons_zero, List.set_cons_succ, Option.some.injEq, exists_eq_left', exists_eq_left, exists_and_left, D.int.injEq, D.bl.injEq, D.lst.injEq, D.tup.injEq, D.str.injEq, D.exc.injEq, List.cons.injEq, and_true, true_and, List.nil_append, List.cons_append, List.append_nil, reduceCtorEq, false_and, exists_false, or_false, false_or, or_true, true_or, and_false, Int.reduceNeg, decide_eq_true_eq, Bool.not_eq_true', decide_eq_false_iff_not, and_assoc, Nat.zero_le, List.length_map, Int.zero_add, Int.reduceLT, Int.reduceLE, Int.reducePow, Int.reduceToNat, Int.reduceAdd, Int.reduceMul, Int.reduceSub, Nat.reduceLeDiff, fEq_ints, fNe_ints, fEq_lstsI, fNe_lstsI, fEq_tupsI, fNe_tupsI, noLA_ints, fSum_lst, fSum_tup, fSorted_lst, fSorted_tup, ↓reduceIte, Bool.false_eq_true, Bool.true_eq_false, false_implies, true_implies, implies_true, forall_const, Bool.not_true, Bool.not_false]
  cases x <;> first | (cases hk; done) | exact ⟨false, rfl, q⟩ | exact ⟨true, rfl, _, rfl, q⟩

def s_d_is_whole : SpD := fun ds P _ => ∃ (x : D) (lo hi : Int), ds = [x, .int lo, .int hi] ∧ kn x = true ∧ P (.bl (whole x lo hi))
theorem len_d_is_whole : ∀ ds P er, s_d_is_whole ds P er → ds.length = 3 := by rintro _ _ _ ⟨_, _, _, rfl, _⟩; rfl
theorem n0_is_whole : ∀ ds P er, s_d_is_whole ds P er → s_d_is_whole ds P noX := fun _ _ _ h => h
theorem ok_is_whole {f : Addr} {fd : FuncData} (F : Fun K "is_whole" "is_whole" s_is_whole f fd) (T : Txt K mg cBadPeople cBadCount cBadTotal cBadCoin cBadUnlike) : FnOk P w K mg base CX0 2 f fd ps_is_whole (spOf (s_d_is_whole)) := by
  obtain ⟨f_is_number, fd_is_number, F_is_number, m_is_number, b_is_number⟩ := T.d_is_number
  have G_is_number : FnOk P w K mg base CX0 1 f_is_number fd_is_number ps_is_number (spOf (s_d_is_number)) := ok_is_number F_is_number T
  refine fn0_d (k := 1) (Oe := []) F sc_is_whole [] _ (len_d_is_whole) (by decide) (fun cdv A outer sh H E hr => (s_one (s_ret (O2 := []) (fun _ z => nomatch z) (d_andV (d_call (by decide) G_is_number (hr.mono (by decide)) (by rfl) m_is_number F_is_number.kp b_is_number .nil (fun _ _ _ => .nil) pass0A (a_cons (d_var (i := 0) (by decide) (pv 0)) a_nil)) (d_one (d_chain op_le op_le l_le l_le (toV (d_var (i := 1) (by decide) (pv 1))) (toV (d_var (i := 0) (by decide) (pv 0))) (toV (d_var (i := 2) (by decide) (pv 2))))))) (by decide))) ?_ n0_is_whole
  rintro ds P ⟨x, lo, hi, rfl, hk, q⟩
  simp only [fLenSet, fMul3, dTr, tru, dAsgT, gS, dMake2, dCBK, fMinD, dCallG, fRepr, fEqS, dSq, dAsg, dNx, dExp, dRet, dRetN, dIfS, dBk, dCt, dAppend, dInsert, dRemove, dPopAt, dSetAt, dRaise, dRaise0, dRaiseL, dVar, dC, dOp, dT, dChain, dNotT, dAndT, dOrT, dAndV, dOrV, dNotV, dIf, dNeg, dNil, dCons, dCB, dTup, dLst, dCall, dCallV, dCallF, dFld, dNoPart, dPart, dSl, dIsSeq, dBM, dTM, dXf, dYes, fSub, fDiv, fMod, fPow, fAdd, fCat, fMul, fRep, fLt, fLe, fGt, fGe, fIs, fIsNot, fIx, fSl, fSlL, fLen, fList, fTuple, fMax2, fMin2, fMax, fMin, fAbs, fInt, fIsi, fIsiN, fIsiC, gN, gT, gT0, gTC, diSeq, diRng1, diRng2, diEnum, dstart, De.off, exD, suiteD, List.map_cons, List.map_nil, List.length_cons, List.length_nil, Nat.reduceAdd, Nat.reduceSub, List.replicate_succ, List.replicate_zero, List.getElem?_cons_zero, List.getElem?_cons_succ, List.set_cons_zero, List.set_cons_succ, Option.some.injEq, exists_eq_left', exists_eq_left, exists_and_left, D.int.injEq, D.bl.injEq, D.lst.injEq, D.tup.injEq, D.str.injEq, D.exc.injEq, List.cons.injEq, and_true, true_and, List.nil_append, List.cons_append, List.append_nil, reduceCtorEq, false_and, exists_false, or_false, false_or, or_true, true_or, and_false, Int.reduceNeg, decide_eq_true_eq, Bool.not_eq_true', decide_eq_false_iff_not, and_assoc, Nat.zero_le, List.length_map, Int.zero_add, Int.reduceLT, Int.reduceLE, Int.reducePow, Int.reduceToNat, Int.reduceAdd, Int.reduceMul, Int.reduceSub, Nat.reduceLeDiff, fEq_ints, fNe_ints, fEq_lstsI, fNe_lstsI, fEq_tupsI, fNe_tupsI, noLA_ints, fSum_lst, fSum_tup, fSorted_lst, fSorted_tup, ↓reduceIte, Bool.false_eq_true, Bool.true_eq_false, false_implies, true_implies, implies_true, forall_const, Bool.not_true, Bool.not_false, s_d_is_number]
  refine ⟨hk, ?_⟩
  cases x <;> first | exact q | skip
  rename_i i
  have e : whole (.int i) lo hi = (decide (lo ≤ i) && decide (i ≤ hi)) := rfl
  rw [e] at q
  rw [if_pos (show isNum (.int i) = true from rfl)]
  simp only [fLenSet, fMul3, dTr, tru, dAsgT, gS, dMake2, dCBK, fMinD, dCallG, fRepr, fEqS, dSq, dAsg, dNx, dExp, dRet, dRetN, dIfS, dBk, dCt, dAppend, dInsert, dRemove, dPopAt, dSetAt, dRaise, dRaise0, dRaiseL, dVar, dC, dOp, dT, dChain, dNotT, dAndT, dOrT, dAndV, dOrV, dNotV, dIf, dNeg, dNil, dCons, dCB, dTup, dLst, dCall, dCallV, dCallF, dFld, dNoPart, dPart, dSl, dIsSeq, dBM, dTM, dXf, dYes, fSub, fDiv, fMod, fPow, fAdd, fCat, fMul, fRep, fLt, fLe, fGt, fGe, fIs, fIsNot, fIx, fSl, fSlL, fLen, fList, fTuple, fMax2, fMin2, fMax, fMin, fAbs, fInt, fIsi, fIsiN, fIsiC, gN, gT, gT0, gTC, diSeq, diRng1, diRng2, diEnum, dstart, De.off, exD, suiteD, List.map_cons, List.map_nil, List.length_cons, List.length_nil, Nat.reduceAdd, Nat.reduceSub, List.replicate_succ, List.replicate_zero, List.getElem?_cons_zero, List.getElem?_cons_succ, List.set_cons_zero, List.set_cons_succ, Option.some.injEq, exists_eq_left', exists_eq_left, exists_and_left, D.int.injEq, D.bl.injEq, D.lst.injEq, D.tup.injEq, D.str.injEq, D.exc.injEq, List.cons.injEq, and_true, true_and, List.nil_append, List.cons_append, List.append_nil, reduceCtorEq, false_and, exists_false, or_false, false_or, or_true, true_or, and_false, Int.reduceNeg, decide_eq_true_eq, Bool.not_eq_true', decide_eq_false_iff_not, and_assoc, Nat.zero_le, List.length_map, Int.zero_add, Int.reduceLT, Int.reduceLE, Int.reducePow, Int.reduceToNat, Int.reduceAdd, Int.reduceMul, Int.reduceSub, Nat.reduceLeDiff, fEq_ints, fNe_ints, fEq_lstsI, fNe_lstsI, fEq_tupsI, fNe_tupsI, noLA_ints, fSum_lst, fSum_tup, fSorted_lst, fSorted_tup, ↓reduceIte, Bool.false_eq_true, Bool.true_eq_false, false_implies, true_implies, implies_true, forall_const, Bool.not_true, Bool.not_false]
  by_cases h : lo ≤ i
  · rw [decide_eq_true h, Bool.true_and] at q
    rw [if_pos h]
    exact q
  · rw [decide_eq_false h, Bool.false_and] at q
    rw [if_neg h]
    exact q

def s_d_check_people (cP : Addr) : SpD := fun ds P er => ∃ (x : D) (lo : Int), ds = [x, .int lo] ∧ kn x = true ∧ (whole x lo 5 = true → P x) ∧ (whole x lo 5 = false → er cP none)
theorem len_d_check_people {c : Addr} : ∀ ds P er, s_d_check_people c ds P er → ds.length = 2 := by rintro _ _ _ ⟨_, _, rfl, _⟩; rfl
theorem ok_check_people {f : Addr} {fd : FuncData} (F : FunD K "check_people" "check_people" (defArgs s_check_people) (defBody s_check_people) (defScope s_check_people) [(V.int 1)] [] f fd) (T : Txt K mg cBadPeople cBadCount cBadTotal cBadCoin cBadUnlike) : FnOk P w K mg base (L2.CX P w) 3 f fd ps_check_people (spOf (s_d_check_people cBadPeople)) := by
  obtain ⟨f_is_whole, fd_is_whole, F_is_whole, m_is_whole, b_is_whole⟩ := T.d_is_whole
  have G_is_whole : FnOk P w K mg base CX0 2 f_is_whole fd_is_whole ps_is_whole (spOf (s_d_is_whole)) := ok_is_whole F_is_whole T
  obtain ⟨u_MOST_PEOPLE, c_MOST_PEOPLE, r_MOST_PEOPLE⟩ := T.c_MOST_PEOPLE
  refine fnD_d (k := 2) (Oe := []) F sc_check_people [] _ (len_d_check_people) (by decide) (fun cdv A outer sh H E hr => (s_cons (s_if (d_not (d_test (d_call (by decide) G_is_whole (hr.mono (by decide)) (by rfl) m_is_whole F_is_whole.kp b_is_whole .nil (fun _ _ _ => .nil) pass0A (a_cons (d_var (i := 0) (by decide) (pv 0)) (a_cons (d_var (i := 1) (by decide) (pv 1)) (a_cons (d_c (y := .int 5) (fun _ _ _ => .int _) (pe_glob rfl c_MOST_PEOPLE r_MOST_PEOPLE)) a_nil)))))) (s_one (s_raise0 (by decide) rfl (L2.takes_of rfl rfl rfl rfl) (T.y_BadPeople.made (by rfl))) (fun _ z => z)) (s_nil (fun _ z => z)))
      (s_one (s_ret (O2 := []) (fun _ z => nomatch z) (d_var (i := 0) (by decide) (pv 0))) (by decide)))) ?_
  rintro ds P er ⟨x, lo, rfl, hk, q, qe⟩
  simp only [fLenSet, fMul3, dTr, tru, dAsgT, gS, dMake2, dCBK, fMinD, dCallG, fRepr, fEqS, dSq, dAsg, dNx, dExp, dRet, dRetN, dIfS, dBk, dCt, dAppend, dInsert, dRemove, dPopAt, dSetAt, dRaise, dRaise0, dRaiseL, dVar, dC, dOp, dT, dChain, dNotT, dAndT, dOrT, dAndV, dOrV, dNotV, dIf, dNeg, dNil, dCons, dCB, dTup, dLst, dCall, dCallV, dCallF, dFld, dNoPart, dPart, dSl, dIsSeq, dBM, dTM, dXf, dYes, fSub, fDiv, fMod, fPow, fAdd, fCat, fMul, fRep, fLt, fLe, fGt, fGe, fIs, fIsNot, fIx, fSl, fSlL, fLen, fList, fTuple, fMax2, fMin2, fMax, fMin, fAbs, fInt, fIsi, fIsiN, fIsiC, gN, gT, gT0, gTC, diSeq, diRng1, diRng2, diEnum, dstart, De.off, exD, suiteD, List.map_cons, List.map_nil, List.length_cons, List.length_nil, Nat.reduceAdd, Nat.reduceSub, List.replicate_succ, List.replicate_zero, List.getElem?_cons_zero, List.getElem?_cons_succ, List.set_cons_zero, List.set_cons_succ, Option.some.injEq, exists_eq_left', exists_eq_left, exists_and_left, D.int.injEq, D.bl.injEq, D.lst.injEq, D.tup.injEq, D.str.injEq, D.exc.injEq, List.cons.injEq, and_true, true_and, List.nil_append, List.cons_append, List.append_nil, reduceCtorEq, false_and, exists_false, or_false, false_or, or_true, true_or, and_false, Int.reduceNeg, decide_eq_true_eq, Bool.not_eq_true', decide_eq_false_iff_not, and_assoc, Nat.zero_le, List.length_map, Int.zero_add, Int.reduceLT, Int.reduceLE, Int.reducePow, Int.reduceToNat, Int.reduceAdd, Int.reduceMul, Int.reduceSub, Nat.reduceLeDiff, fEq_ints, fNe_ints, fEq_lstsI, fNe_lstsI, fEq_tupsI, fNe_tupsI, noLA_ints, fSum_lst, fSum_tup, fSorted_lst, fSorted_tup, ↓reduceIte, Bool.false_eq_true, Bool.true_eq_false, false_implies, true_implies, implies_true, forall_const, Bool.not_true, Bool.not_false, s_d_is_whole]
  refine ⟨hk, ?_⟩
  cases h : whole x lo 5 with
  | true => exact q h
  | false => exact qe h

end
end My
set_option Elab.async false
set_option linter.all false
set_option maxRecDepth 100000
set_option maxHeartbeats 4000000
namespace My
open PySem PySem.Spec PyProof.Rows L2 Gen DL
section
variable {P : Program} {w : World} {K : PySem.W.Frag} {mg : Str → Option Value} {base : Heap} { cBadPeople cBadCount cBadTotal cBadCoin cBadUnlike : Addr}
def s_d_up : SpD := fun ds P _ => ∃ t p : Int, ds = [.int t, .int p] ∧ 0 < p ∧ p < 1000 ∧ P (.int (upI t p))
theorem len_d_up : ∀ ds P er, s_d_up ds P er → ds.length = 2 := by rintro _ _ _ ⟨_, _, rfl, _⟩; rfl
theorem n0_up : ∀ ds P er, s_d_up ds P er → s_d_up ds P noX := fun _ _ _ h => h
theorem ok_up {f : Addr} {fd : FuncData} (F : Fun K "up" "up" s_up f fd) (T : Txt K mg cBadPeople cBadCount cBadTotal cBadCoin cBadUnlike) : FnOk P w K mg base CX0 1 f fd ps_up (spOf (s_d_up)) := by
  refine fn0_d (k := 0) (Oe := []) F sc_up [] _ (len_d_up) (by decide) (fun cdv A outer sh H E hr => (s_one (s_ret (O2 := []) (fun _ z => nomatch z) (d_op op_fdivW l_div (toV (d_op op_sub l_sub (toV (d_op op_add4 l_add (toV (d_var (i := 0) (by decide) (pv 0))) (toV (d_var (i := 1) (by decide) (pv 1))))) (toV (d_c (y := .int 1) (fun _ _ _ => .int _) pe_int)))) (toV (d_var (i := 1) (by decide) (pv 1))))) (by decide))) ?_ n0_up
  rintro ds P ⟨t, p, rfl, p0, p1, q⟩
  simp only [fLenSet, fMul3, dTr, tru, dAsgT, gS, dMake2, dCBK, fMinD, dCallG, fRepr, fEqS, dSq, dAsg, dNx, dExp, dRet, dRetN, dIfS, dBk, dCt, dAppend, dInsert, dRemove, dPopAt, dSetAt, dRaise, dRaise0, dRaiseL, dVar, dC, dOp, dT, dChain, dNotT, dAndT, dOrT, dAndV, dOrV, dNotV, dIf, dNeg, dNil, dCons, dCB, dTup, dLst, dCall, dCallV, dCallF, dFld, dNoPart, dPart, dSl, dIsSeq, dBM, dTM, dXf, dYes, fSub, fDiv, fMod, fPow, fAdd, fCat, fMul, fRep, fLt, fLe, fGt, fGe, fIs, fIsNot, fIx, fSl, fSlL, fLen, fList, fTuple, fMax2, fMin2, fMax, fMin, fAbs, fInt, fIsi, fIsiN, fIsiC, gN, gT, gT0, gTC, diSeq, diRng1, diRng2, diEnum, dstart, De.off, exD, suiteD, List.map_cons, List.map_nil, List.length_cons, List.length_nil, Nat.reduceAdd, Nat.reduceSub, List.replicate_succ, List.replicate_zero, List.getElem?_cons_zero, List.getElem?_cons_succ, List.set_cons_zero, List.set_cons_succ, Option.some.injEq, exists_eq_left', exists_eq_left, exists_and_left, D.int.injEq, D.bl.injEq, D.lst.injEq, D.tup.injEq, D.str.injEq, D.exc.injEq, List.cons.injEq, and_true, true_and, List.nil_append, List.cons_append, List.append_nil, reduceCtorEq, false_and, exists_false, or_false, false_or, or_true, true_or, and_false, Int.reduceNeg, decide_eq_true_eq, Bool.not_eq_true', decide_eq_false_iff_not, and_assoc, Nat.zero_le, List.length_map, Int.zero_add, Int.reduceLT, Int.reduceLE, Int.reducePow, Int.reduceToNat, Int.reduceAdd, Int.reduceMul, Int.reduceSub, Nat.reduceLeDiff, fEq_ints, fNe_ints, fEq_lstsI, fNe_lstsI, fEq_tupsI, fNe_tupsI, noLA_ints, fSum_lst, fSum_tup, fSorted_lst, fSorted_tup, ↓reduceIte, Bool.false_eq_true, Bool.true_eq_false, false_implies, true_implies, implies_true, forall_const, Bool.not_true, Bool.not_false]
  exact ⟨p0, by omega, q⟩
abbrev mostE (m : Int) : Option (List (Str × D)) := some [("most", .int m)]
def s_d_check_count (cE : Addr) : SpD := fun ds P er => ∃ (x : D) (m : Int), ds = [x, .int m] ∧ kn x = true ∧ (whole x 0 m = true → P x) ∧ (whole x 0 m = false → er cE (mostE m))
theorem len_d_check_count {c : Addr} : ∀ ds P er, s_d_check_count c ds P er → ds.length = 2 := by rintro _ _ _ ⟨_, _, rfl, _⟩; rfl
theorem ok_check_count {f : Addr} {fd : FuncData} (F : Fun K "check_count" "check_count" s_check_count f fd) (T : Txt K mg cBadPeople cBadCount cBadTotal cBadCoin cBadUnlike) : FnOk P w K mg base (L2.CX P w) 3 f fd ps_check_count (spOf (s_d_check_count cBadCount)) := by
  obtain ⟨f_is_whole, fd_is_whole, F_is_whole, m_is_whole, b_is_whole⟩ := T.d_is_whole
  have G_is_whole : FnOk P w K mg base CX0 2 f_is_whole fd_is_whole ps_is_whole (spOf (s_d_is_whole)) := ok_is_whole F_is_whole T
  obtain ⟨f_i_BadCount, fd_i_BadCount, F_i_BadCount, b_i_BadCount, iC_BadCount, tI_BadCount⟩ := T.y_BadCount.ini
  have G_i_BadCount : FnOk P w K mg base CX0 1 f_i_BadCount fd_i_BadCount ps_i_BadCount (spI1 K cBadCount "most") := ok_i_BadCount F_i_BadCount T
  refine fn_d (k := 2) (Oe := []) F sc_check_count [] _ (len_d_check_count) (by decide) (fun cdv A outer sh H E hr => (s_cons (s_if (d_not (d_test (d_call (by decide) G_is_whole (hr.mono (by decide)) (by rfl) m_is_whole F_is_whole.kp b_is_whole .nil (fun _ _ _ => .nil) pass0A (a_cons (d_var (i := 0) (by decide) (pv 0)) (a_cons (d_c (y := .int 0) (fun _ _ _ => .int _) pe_int) (a_cons (d_var (i := 1) (by decide) (pv 1)) a_nil)))))) (s_one (s_raise1 (by decide) T.y_BadCount.ox T.f_BadCount_most (L2.ps_raise rfl (L2.takes_of rfl rfl rfl rfl) (pmk_oex T.y_BadCount.ox iC_BadCount tI_BadCount G_i_BadCount (hr.mono (by decide)) b_i_BadCount .nil pass0 (by rfl) T.y_BadCount.gC (a_cons (d_var (i := 1) (by decide) (pv 1)) a_nil)))) (fun _ z => z)) (s_nil (fun _ z => z)))
      (s_one (s_ret (O2 := []) (fun _ z => nomatch z) (d_var (i := 0) (by decide) (pv 0))) (by decide)))) ?_
  rintro ds P er ⟨x, m, rfl, hk, q, qe⟩
  simp only [fLenSet, fMul3, dTr, tru, dAsgT, gS, dMake2, dCBK, fMinD, dCallG, fRepr, fEqS, dSq, dAsg, dNx, dExp, dRet, dRetN, dIfS, dBk, dCt, dAppend, dInsert, dRemove, dPopAt, dSetAt, dRaise, dRaise0, dRaiseL, dVar, dC, dOp, dT, dChain, dNotT, dAndT, dOrT, dAndV, dOrV, dNotV, dIf, dNeg, dNil, dCons, dCB, dTup, dLst, dCall, dCallV, dCallF, dFld, dNoPart, dPart, dSl, dIsSeq, dBM, dTM, dXf, dYes, fSub, fDiv, fMod, fPow, fAdd, fCat, fMul, fRep, fLt, fLe, fGt, fGe, fIs, fIsNot, fIx, fSl, fSlL, fLen, fList, fTuple, fMax2, fMin2, fMax, fMin, fAbs, fInt, fIsi, fIsiN, fIsiC, gN, gT, gT0, gTC, diSeq, diRng1, diRng2, diEnum, dstart, De.off, exD, suiteD, List.map_cons, List.map_nil, List.length_cons, List.length_nil, Nat.reduceAdd, Nat.reduceSub, List.replicate_succ, List.replicate_zero, List.getElem?_cons_zero, List.getElem?_cons_succ, List.set_cons_zero, List.set_cons_succ, Option.some.injEq, exists_eq_left', exists_eq_left, exists_and_left, D.int.injEq, D.bl.injEq, D.lst.injEq, D.tup.injEq, D.str.injEq, D.exc.injEq, List.cons.injEq, and_true, true_and, List.nil_append, List.cons_append, List.append_nil, reduceCtorEq, false_and, exists_false, or_false, false_or, or_true, true_or, and_false, Int.reduceNeg, decide_eq_true_eq, Bool.not_eq_true', decide_eq_false_iff_not, and_assoc, Nat.zero_le, List.length_map, Int.zero_add, Int.reduceLT, Int.reduceLE, Int.reducePow, Int.reduceToNat, Int.reduceAdd, Int.reduceMul, Int.reduceSub, Nat.reduceLeDiff, fEq_ints, fNe_ints, fEq_lstsI, fNe_lstsI, fEq_tupsI, fNe_tupsI, noLA_ints, fSum_lst, fSum_tup, fSorted_lst, fSorted_tup, ↓reduceIte, Bool.false_eq_true, Bool.true_eq_false, false_implies, true_implies, implies_true, forall_const, Bool.not_true, Bool.not_false, s_d_is_whole]
  refine ⟨hk, ?_⟩
  cases h : whole x 0 m with
  | true => exact q h
  | false =>
    rw [if_pos rfl]
    exact ⟨rfl, qe h⟩
def s_d_check_total (cE : Addr) : SpD := fun ds P er => ∃ (x : D) (m : Int), ds = [x, .int m] ∧ kn x = true ∧ (whole x 0 m = true → P x) ∧ (whole x 0 m = false → er cE (mostE m))
theorem len_d_check_total {c : Addr} : ∀ ds P er, s_d_check_total c ds P er → ds.length = 2 := by rintro _ _ _ ⟨_, _, rfl, _⟩; rfl
theorem ok_check_total {f : Addr} {fd : FuncData} (F : Fun K "check_total" "check_total" s_check_total f fd) (T : Txt K mg cBadPeople cBadCount cBadTotal cBadCoin cBadUnlike) : FnOk P w K mg base (L2.CX P w) 3 f fd ps_check_total (spOf (s_d_check_total cBadTotal)) := by
  obtain ⟨f_is_whole, fd_is_whole, F_is_whole, m_is_whole, b_is_whole⟩ := T.d_is_whole
  have G_is_whole : FnOk P w K mg base CX0 2 f_is_whole fd_is_whole ps_is_whole (spOf (s_d_is_whole)) := ok_is_whole F_is_whole T
  obtain ⟨f_i_BadTotal, fd_i_BadTotal, F_i_BadTotal, b_i_BadTotal, iC_BadTotal, tI_BadTotal⟩ := T.y_BadTotal.ini
  have G_i_BadTotal : FnOk P w K mg base CX0 1 f_i_BadTotal fd_i_BadTotal ps_i_BadTotal (spI1 K cBadTotal "most") := ok_i_BadTotal F_i_BadTotal T
  refine fn_d (k := 2) (Oe := []) F sc_check_total [] _ (len_d_check_total) (by decide) (fun cdv A outer sh H E hr => (s_cons (s_if (d_not (d_test (d_call (by decide) G_is_whole (hr.mono (by decide)) (by rfl) m_is_whole F_is_whole.kp b_is_whole .nil (fun _ _ _ => .nil) pass0A (a_cons (d_var (i := 0) (by decide) (pv 0)) (a_cons (d_c (y := .int 0) (fun _ _ _ => .int _) pe_int) (a_cons (d_var (i := 1) (by decide) (pv 1)) a_nil)))))) (s_one (s_raise1 (by decide) T.y_BadTotal.ox T.f_BadTotal_most (L2.ps_raise rfl (L2.takes_of rfl rfl rfl rfl) (pmk_oex T.y_BadTotal.ox iC_BadTotal tI_BadTotal G_i_BadTotal (hr.mono (by decide)) b_i_BadTotal .nil pass0 (by rfl) T.y_BadTotal.gC (a_cons (d_var (i := 1) (by decide) (pv 1)) a_nil)))) (fun _ z => z)) (s_nil (fun _ z => z)))
      (s_one (s_ret (O2 := []) (fun _ z => nomatch z) (d_var (i := 0) (by decide) (pv 0))) (by decide)))) ?_
  rintro ds P er ⟨x, m, rfl, hk, q, qe⟩
  simp only [fLenSet, fMul3, dTr, tru, dAsgT, gS, dMake2, dCBK, fMinD, dCallG, fRepr, fEqS, dSq, dAsg, dNx, dExp, dRet, dRetN, dIfS, dBk, dCt, dAppend, dInsert, dRemove, dPopAt, dSetAt, dRaise, dRaise0, dRaiseL, dVar, dC, dOp, dT, dChain, dNotT, dAndT, dOrT, dAndV, dOrV, dNotV, dIf, dNeg, dNil, dCons, dCB, dTup, dLst, dCall, dCallV, dCallF, dFld, dNoPart, dPart, dSl, dIsSeq, dBM, dTM, dXf, dYes, fSub, fDiv, fMod, fPow, fAdd, fCat, fMul, fRep, fLt, fLe, fGt, fGe, fIs, fIsNot, fIx, fSl, fSlL, fLen, fList, fTuple, fMax2, fMin2, fMax, fMin, fAbs, fInt, fIsi, fIsiN, fIsiC, gN, gT, gT0, gTC, diSeq, diRng1, diRng2, diEnum, dstart, De.off, exD, suiteD, List.map_cons, List.map_nil, List.length_cons, List.length_nil, Nat.reduceAdd, Nat.reduceSub, List.replicate_succ, List.replicate_zero, List.getElem?_cons_zero, List.getElem?_cons_succ, List.set_cons_zero, List.set_cons_succ, Option.some.injEq, exists_eq_left', exists_eq_left, exists_and_left, D.int.injEq, D.bl.injEq, D.lst.injEq, D.tup.injEq, D.str.injEq, D.exc.injEq, List.cons.injEq, and_true, true_and, List.nil_append, List.cons_append, List.append_nil, reduceCtorEq, false_and, exists_false, or_false, false_or, or_true, true_or, and_false, Int.reduceNeg, decide_eq_true_eq, Bool.not_eq_true', decide_eq_false_iff_not, and_assoc, Nat.zero_le, List.length_map, Int.zero_add, Int.reduceLT, Int.reduceLE, Int.reducePow, Int.reduceToNat, Int.reduceAdd, Int.reduceMul, Int.reduceSub, Nat.reduceLeDiff, fEq_ints, fNe_ints, fEq_lstsI, fNe_lstsI, fEq_tupsI, fNe_tupsI, noLA_ints, fSum_lst, fSum_tup, fSorted_lst, fSorted_tup, ↓reduceIte, Bool.false_eq_true, Bool.true_eq_false, false_implies, true_implies, implies_true, forall_const, Bool.not_true, Bool.not_false, s_d_is_whole]
  refine ⟨hk, ?_⟩
  cases h : whole x 0 m with
  | true => exact q h
  | false =>
    rw [if_pos rfl]
    exact ⟨rfl, qe h⟩
def s_d_check_coin (cE : Addr) : SpD := fun ds P er => ∃ (x : D), ds = [x] ∧ kn x = true ∧ (whole x 1 1000000000 = true → P x) ∧ (whole x 1 1000000000 = false → er cE none)
theorem len_d_check_coin {c : Addr} : ∀ ds P er, s_d_check_coin c ds P er → ds.length = 1 := by rintro _ _ _ ⟨_, rfl, _⟩; rfl
theorem ok_check_coin {f : Addr} {fd : FuncData} (F : Fun K "check_coin" "check_coin" s_check_coin f fd) (T : Txt K mg cBadPeople cBadCount cBadTotal cBadCoin cBadUnlike) : FnOk P w K mg base (L2.CX P w) 3 f fd ps_check_coin (spOf (s_d_check_coin cBadCoin)) := by
  obtain ⟨f_is_whole, fd_is_whole, F_is_whole, m_is_whole, b_is_whole⟩ := T.d_is_whole
  have G_is_whole : FnOk P w K mg base CX0 2 f_is_whole fd_is_whole ps_is_whole (spOf (s_d_is_whole)) := ok_is_whole F_is_whole T
  obtain ⟨u_GREATEST_COIN, c_GREATEST_COIN, r_GREATEST_COIN⟩ := T.c_GREATEST_COIN
  refine fn_d (k := 2) (Oe := []) F sc_check_coin [] _ (len_d_check_coin) (by decide) (fun cdv A outer sh H E hr => (s_cons (s_if (d_not (d_test (d_call (by decide) G_is_whole (hr.mono (by decide)) (by rfl) m_is_whole F_is_whole.kp b_is_whole .nil (fun _ _ _ => .nil) pass0A (a_cons (d_var (i := 0) (by decide) (pv 0)) (a_cons (d_c (y := .int 1) (fun _ _ _ => .int _) pe_int) (a_cons (d_c (y := .int 1000000000) (fun _ _ _ => .int _) (pe_glob rfl c_GREATEST_COIN r_GREATEST_COIN)) a_nil)))))) (s_one (s_raise0 (by decide) rfl (L2.takes_of rfl rfl rfl rfl) (T.y_BadCoin.made (by rfl))) (fun _ z => z)) (s_nil (fun _ z => z)))
      (s_one (s_ret (O2 := []) (fun _ z => nomatch z) (d_var (i := 0) (by decide) (pv 0))) (by decide)))) ?_
  rintro ds P er ⟨x, rfl, hk, q, qe⟩
  simp only [fLenSet, fMul3, dTr, tru, dAsgT, gS, dMake2, dCBK, fMinD, dCallG, fRepr, fEqS, dSq, dAsg, dNx, dExp, dRet, dRetN, dIfS, dBk, dCt, dAppend, dInsert, dRemove, dPopAt, dSetAt, dRaise, dRaise0, dRaiseL, dVar, dC, dOp, dT, dChain, dNotT, dAndT, dOrT, dAndV, dOrV, dNotV, dIf, dNeg, dNil, dCons, dCB, dTup, dLst, dCall, dCallV, dCallF, dFld, dNoPart, dPart, dSl, dIsSeq, dBM, dTM, dXf, dYes, fSub, fDiv, fMod, fPow, fAdd, fCat, fMul, fRep, fLt, fLe, fGt, fGe, fIs, fIsNot, fIx, fSl, fSlL, fLen, fList, fTuple, fMax2, fMin2, fMax, fMin, fAbs, fInt, fIsi, fIsiN, fIsiC, gN, gT, gT0, gTC, diSeq, diRng1, diRng2, diEnum, dstart, De.off, exD, suiteD, List.map_cons, List.map_nil, List.length_cons, List.length_nil, Nat.reduceAdd, Nat.reduceSub, List.replicate_succ, List.replicate_zero, List.getElem?_cons_zero, List.getElem?_cons_succ, List.set_cons_zero, List.set_cons_succ, Option.some.injEq, exists_eq_left', exists_eq_left, exists_and_left, D.int.injEq, D.bl.injEq, D.lst.injEq, D.tup.injEq, D.str.injEq, D.exc.injEq, List.cons.injEq, and_true, true_and, List.nil_append, List.cons_append, List.append_nil, reduceCtorEq, false_and, exists_false, or_false, false_or, or_true, true_or, and_false, Int.reduceNeg, decide_eq_true_eq, Bool.not_eq_true', decide_eq_false_iff_not, and_assoc, Nat.zero_le, List.length_map, Int.zero_add, Int.reduceLT, Int.reduceLE, Int.reducePow, Int.reduceToNat, Int.reduceAdd, Int.reduceMul, Int.reduceSub, Nat.reduceLeDiff, fEq_ints, fNe_ints, fEq_lstsI, fNe_lstsI, fEq_tupsI, fNe_tupsI, noLA_ints, fSum_lst, fSum_tup, fSorted_lst, fSorted_tup, ↓reduceIte, Bool.false_eq_true, Bool.true_eq_false, false_implies, true_implies, implies_true, forall_const, Bool.not_true, Bool.not_false, s_d_is_whole]
  refine ⟨hk, ?_⟩
  cases h : whole x 1 1000000000 with
  | true => exact q h
  | false => exact qe h
def s_d_room_at : SpD := fun ds P _ => ∃ t p : Int, ds = [.int t, .int p] ∧ 2 ≤ p ∧ p ≤ 1000 ∧ P (.int (nxt p t))
theorem len_d_room_at : ∀ ds P er, s_d_room_at ds P er → ds.length = 2 := by rintro _ _ _ ⟨_, _, rfl, _⟩; rfl
theorem n0_room_at : ∀ ds P er, s_d_room_at ds P er → s_d_room_at ds P noX := fun _ _ _ h => h
theorem ok_room_at {f : Addr} {fd : FuncData} (F : Fun K "room_at" "room_at" s_room_at f fd) (T : Txt K mg cBadPeople cBadCount cBadTotal cBadCoin cBadUnlike) : FnOk P w K mg base CX0 1 f fd ps_room_at (spOf (s_d_room_at)) := by
  refine fn0_d (k := 0) (Oe := []) F sc_room_at [] _ (len_d_room_at) (by decide) (fun cdv A outer sh H E hr => (s_one (s_ret (O2 := []) (fun _ z => nomatch z) (d_op op_add4 l_add (toV (d_op op_fdivW l_div (toV (d_var (i := 0) (by decide) (pv 0))) (toV (d_op op_sub l_sub (toV (d_var (i := 1) (by decide) (pv 1))) (toV (d_c (y := .int 1) (fun _ _ _ => .int _) pe_int)))))) (toV (d_c (y := .int 1) (fun _ _ _ => .int _) pe_int)))) (by decide))) ?_ n0_room_at
  rintro ds P ⟨t, p, rfl, p0, p1, q⟩
  simp only [fLenSet, fMul3, dTr, tru, dAsgT, gS, dMake2, dCBK, fMinD, dCallG, fRepr, fEqS, dSq, dAsg, dNx, dExp, dRet, dRetN, dIfS, dBk, dCt, dAppend, dInsert, dRemove, dPopAt, dSetAt, dRaise, dRaise0, dRaiseL, dVar, dC, dOp, dT, dChain, dNotT, dAndT, dOrT, dAndV, dOrV, dNotV, dIf, dNeg, dNil, dCons, dCB, dTup, dLst, dCall, dCallV, dCallF, dFld, dNoPart, dPart, dSl, dIsSeq, dBM, dTM, dXf, dYes, fSub, fDiv, fMod, fPow, fAdd, fCat, fMul, fRep, fLt, fLe, fGt, fGe, fIs, fIsNot, fIx, fSl, fSlL, fLen, fList, fTuple, fMax2, fMin2, fMax, fMin, fAbs, fInt, fIsi, fIsiN, fIsiC, gN, gT, gT0, gTC, diSeq, diRng1, diRng2, diEnum, dstart, De.off, exD, suiteD, List.map_cons, List.map_nil, List.length_cons, List.length_nil, Nat.reduceAdd, Nat.reduceSub, List.replicate_succ, List.replicate_zero, List.getElem?_cons_zero, List.getElem?_cons_succ, List.set_cons_zero, List.set_cons_succ, Option.some.injEq, exists_eq_left', exists_eq_left, exists_and_left, D.int.injEq, D.bl.injEq, D.lst.injEq, D.tup.injEq, D.str.injEq, D.exc.injEq, List.cons.injEq, and_true, true_and, List.nil_append, List.cons_append, List.append_nil, reduceCtorEq, false_and, exists_false, or_false, false_or, or_true, true_or, and_false, Int.reduceNeg, decide_eq_true_eq, Bool.not_eq_true', decide_eq_false_iff_not, and_assoc, Nat.zero_le, List.length_map, Int.zero_add, Int.reduceLT, Int.reduceLE, Int.reducePow, Int.reduceToNat, Int.reduceAdd, Int.reduceMul, Int.reduceSub, Nat.reduceLeDiff, fEq_ints, fNe_ints, fEq_lstsI, fNe_lstsI, fEq_tupsI, fNe_tupsI, noLA_ints, fSum_lst, fSum_tup, fSorted_lst, fSorted_tup, ↓reduceIte, Bool.false_eq_true, Bool.true_eq_false, false_implies, true_implies, implies_true, forall_const, Bool.not_true, Bool.not_false]
  exact ⟨by omega, by omega, q⟩
def s_d_fewest_for : SpD := fun ds P _ => ∃ t p : Int, ds = [.int t, .int p] ∧ 2 ≤ p ∧ p ≤ 1000 ∧ ∀ k : Nat, IsFew p t k → P (.int k)
theorem len_d_fewest_for : ∀ ds P er, s_d_fewest_for ds P er → ds.length = 2 := by rintro _ _ _ ⟨_, _, rfl, _⟩; rfl
theorem n0_fewest_for : ∀ ds P er, s_d_fewest_for ds P er → s_d_fewest_for ds P noX := fun _ _ _ h => h
theorem ok_fewest_for {f : Addr} {fd : FuncData} (F : Fun K "fewest_for" "fewest_for" s_fewest_for f fd) (T : Txt K mg cBadPeople cBadCount cBadTotal cBadCoin cBadUnlike) : FnOk P w K mg base CX0 2 f fd ps_fewest_for (spOf (s_d_fewest_for)) := by
  obtain ⟨f_room_at, fd_room_at, F_room_at, m_room_at, b_room_at⟩ := T.d_room_at
  have G_room_at : FnOk P w K mg base CX0 1 f_room_at fd_room_at ps_room_at (spOf (s_d_room_at)) := ok_room_at F_room_at T
  refine fn0_d (k := 1) (Oe := []) F sc_fewest_for [] _ (len_d_fewest_for) (by decide) (fun cdv A outer sh H E hr => (s_cons (s_set (i := 2) (by decide) sc_fewest_for.nd rfl (Or.inl rfl) (d_c (y := .int 0) (fun _ _ _ => .int _) pe_int))
      (s_cons (s_set (i := 3) (by decide) sc_fewest_for.nd rfl (Or.inl rfl) (d_c (y := .int 0) (fun _ _ _ => .int _) pe_int))
      (s_cons (s_while PassesOwn.never (d_tcmp op_lt l_lt (toV (d_var (i := 3) (by decide) (pv 3))) (toV (d_var (i := 0) (by decide) (pv 0))) (nomark _))
      (s_cons (s_set (i := 3) (by decide) sc_fewest_for.nd rfl (Or.inl rfl) (d_op op_add4 l_add (toV (d_var (i := 3) (by decide) (pv 3))) (toV (d_call (by decide) G_room_at (hr.mono (by decide)) (by rfl) m_room_at F_room_at.kp b_room_at .nil (fun _ _ _ => .nil) pass0A (a_cons (d_var (i := 3) (by decide) (pv 3)) (a_cons (d_var (i := 1) (by decide) (pv 1)) a_nil))))))
      (s_one (s_set (i := 2) (by decide) sc_fewest_for.nd rfl (Or.inl rfl) (d_op op_add4 l_add (toV (d_var (i := 2) (by decide) (pv 2))) (toV (d_c (y := .int 1) (fun _ _ _ => .int _) pe_int)))) (fun _ z => z))))
      (s_one (s_ret (O2 := []) (fun _ z => nomatch z) (d_var (i := 2) (by decide) (pv 2))) (by decide)))))) ?_ n0_fewest_for
  rintro ds P ⟨t, p, rfl, p0, p1, q⟩
  refine sq_cut fun R eR => ?_
  simp only [fLenSet, fMul3, dTr, tru, dAsgT, gS, dMake2, dCBK, fMinD, dCallG, fRepr, fEqS, dSq, dAsg, dNx, dExp, dRet, dRetN, dIfS, dBk, dCt, dAppend, dInsert, dRemove, dPopAt, dSetAt, dRaise, dRaise0, dRaiseL, dVar, dC, dOp, dT, dChain, dNotT, dAndT, dOrT, dAndV, dOrV, dNotV, dIf, dNeg, dNil, dCons, dCB, dTup, dLst, dCall, dCallV, dCallF, dFld, dNoPart, dPart, dSl, dIsSeq, dBM, dTM, dXf, dYes, fSub, fDiv, fMod, fPow, fAdd, fCat, fMul, fRep, fLt, fLe, fGt, fGe, fIs, fIsNot, fIx, fSl, fSlL, fLen, fList, fTuple, fMax2, fMin2, fMax, fMin, fAbs, fInt, fIsi, fIsiN, fIsiC, gN, gT, gT0, gTC, diSeq, diRng1, diRng2, diEnum, dstart, De.off, exD, suiteD, List.map_cons, List.map_nil, List.length_cons, List.length_nil, Nat.reduceAdd, Nat.reduceSub, List.replicate_succ, List.replicate_zero, List.getElem?_cons_zero, List.getElem?_cons_succ, List.set_cons_zero, List.set_cons_succ, Option.some.injEq, exists_eq_left', exists_eq_left, exists_and_left, D.int.injEq, D.bl.injEq, D.lst.injEq, D.tup.injEq, D.str.injEq, D.exc.injEq, List.cons.injEq, and_true, true_and, List.nil_append, List.cons_append, List.append_nil, reduceCtorEq, false_and, exists_false, or_false, false_or, or_true, true_or, and_false, Int.reduceNeg, decide_eq_true_eq, Bool.not_eq_true', decide_eq_false_iff_not, and_assoc, Nat.zero_le, List.length_map, Int.zero_add, Int.reduceLT, Int.reduceLE, Int.reducePow, Int.reduceToNat, Int.reduceAdd, Int.reduceMul, Int.reduceSub, Nat.reduceLeDiff, fEq_ints, fNe_ints, fEq_lstsI, fNe_lstsI, fEq_tupsI, fNe_tupsI, noLA_ints, fSum_lst, fSum_tup, fSorted_lst, fSorted_tup, ↓reduceIte, Bool.false_eq_true, Bool.true_eq_false, false_implies, true_implies, implies_true, forall_const, Bool.not_true, Bool.not_false]
  subst eR
  refine sq_cut fun R eR => ?_
  simp only [fLenSet, fMul3, dTr, tru, dAsgT, gS, dMake2, dCBK, fMinD, dCallG, fRepr, fEqS, dSq, dAsg, dNx, dExp, dRet, dRetN, dIfS, dBk, dCt, dAppend, dInsert, dRemove, dPopAt, dSetAt, dRaise, dRaise0, dRaiseL, dVar, dC, dOp, dT, dChain, dNotT, dAndT, dOrT, dAndV, dOrV, dNotV, dIf, dNeg, dNil, dCons, dCB, dTup, dLst, dCall, dCallV, dCallF, dFld, dNoPart, dPart, dSl, dIsSeq, dBM, dTM, dXf, dYes, fSub, fDiv, fMod, fPow, fAdd, fCat, fMul, fRep, fLt, fLe, fGt, fGe, fIs, fIsNot, fIx, fSl, fSlL, fLen, fList, fTuple, fMax2, fMin2, fMax, fMin, fAbs, fInt, fIsi, fIsiN, fIsiC, gN, gT, gT0, gTC, diSeq, diRng1, diRng2, diEnum, dstart, De.off, exD, suiteD, List.map_cons, List.map_nil, List.length_cons, List.length_nil, Nat.reduceAdd, Nat.reduceSub, List.replicate_succ, List.replicate_zero, List.getElem?_cons_zero, List.getElem?_cons_succ, List.set_cons_zero, List.set_cons_succ, Option.some.injEq, exists_eq_left', exists_eq_left, exists_and_left, D.int.injEq, D.bl.injEq, D.lst.injEq, D.tup.injEq, D.str.injEq, D.exc.injEq, List.cons.injEq, and_true, true_and, List.nil_append, List.cons_append, List.append_nil, reduceCtorEq, false_and, exists_false, or_false, false_or, or_true, true_or, and_false, Int.reduceNeg, decide_eq_true_eq, Bool.not_eq_true', decide_eq_false_iff_not, and_assoc, Nat.zero_le, List.length_map, Int.zero_add, Int.reduceLT, Int.reduceLE, Int.reducePow, Int.reduceToNat, Int.reduceAdd, Int.reduceMul, Int.reduceSub, Nat.reduceLeDiff, fEq_ints, fNe_ints, fEq_lstsI, fNe_lstsI, fEq_tupsI, fNe_tupsI, noLA_ints, fSum_lst, fSum_tup, fSorted_lst, fSorted_tup, ↓reduceIte, Bool.false_eq_true, Bool.true_eq_false, false_implies, true_implies, implies_true, forall_const, Bool.not_true, Bool.not_false]
  subst eR
  refine sq_cut fun R eR => ?_
  refine ⟨fun m δ => ∃ k : Nat, δ = [some (.int t), some (.int p), some (.int k), some (.int (gr p k))] ∧ (∀ j, j < k → gr p j < t) ∧ m = (t - gr p k).toNat, ⟨_, 0, rfl, fun j z => absurd z (Nat.not_lt_zero j), rfl⟩, ?_⟩
  rintro m δ' ⟨k, rfl, hj, rfl⟩
  simp only [fLenSet, fMul3, dTr, tru, dAsgT, gS, dMake2, dCBK, fMinD, dCallG, fRepr, fEqS, dSq, dAsg, dNx, dExp, dRet, dRetN, dIfS, dBk, dCt, dAppend, dInsert, dRemove, dPopAt, dSetAt, dRaise, dRaise0, dRaiseL, dVar, dC, dOp, dT, dChain, dNotT, dAndT, dOrT, dAndV, dOrV, dNotV, dIf, dNeg, dNil, dCons, dCB, dTup, dLst, dCall, dCallV, dCallF, dFld, dNoPart, dPart, dSl, dIsSeq, dBM, dTM, dXf, dYes, fSub, fDiv, fMod, fPow, fAdd, fCat, fMul, fRep, fLt, fLe, fGt, fGe, fIs, fIsNot, fIx, fSl, fSlL, fLen, fList, fTuple, fMax2, fMin2, fMax, fMin, fAbs, fInt, fIsi, fIsiN, fIsiC, gN, gT, gT0, gTC, diSeq, diRng1, diRng2, diEnum, dstart, De.off, exD, suiteD, List.map_cons, List.map_nil, List.length_cons, List.length_nil, Nat.reduceAdd, Nat.reduceSub, List.replicate_succ, List.replicate_zero, List.getElem?_cons_zero, List.getElem?_cons_succ, List.set_cons_zero, List.set_cons_succ, Option.some.injEq, exists_eq_left', exists_eq_left, exists_and_left, D.int.injEq, D.bl.injEq, D.lst.injEq, D.tup.injEq, D.str.injEq, D.exc.injEq, List.cons.injEq, and_true, true_and, List.nil_append, List.cons_append, List.append_nil, reduceCtorEq, false_and, exists_false, or_false, false_or, or_true, true_or, and_false, Int.reduceNeg, decide_eq_true_eq, Bool.not_eq_true', decide_eq_false_iff_not, and_assoc, Nat.zero_le, List.length_map, Int.zero_add, Int.reduceLT, Int.reduceLE, Int.reducePow, Int.reduceToNat, Int.reduceAdd, Int.reduceMul, Int.reduceSub, Nat.reduceLeDiff, fEq_ints, fNe_ints, fEq_lstsI, fNe_lstsI, fEq_tupsI, fNe_tupsI, noLA_ints, fSum_lst, fSum_tup, fSorted_lst, fSorted_tup, ↓reduceIte, Bool.false_eq_true, Bool.true_eq_false, false_implies, true_implies, implies_true, forall_const, Bool.not_true, Bool.not_false, s_d_room_at]
  split
  · rename_i h
    have := gr_lt p0 k
    refine ⟨p0, p1, _, ?_, k + 1, by omega, rfl, fun j z => ?_, rfl⟩
    · omega
    · by_cases e : j = k
      · subst e; exact h
      · exact hj j (by omega)
  · rename_i h
    subst eR
    simp only [fLenSet, fMul3, dTr, tru, dAsgT, gS, dMake2, dCBK, fMinD, dCallG, fRepr, fEqS, dSq, dAsg, dNx, dExp, dRet, dRetN, dIfS, dBk, dCt, dAppend, dInsert, dRemove, dPopAt, dSetAt, dRaise, dRaise0, dRaiseL, dVar, dC, dOp, dT, dChain, dNotT, dAndT, dOrT, dAndV, dOrV, dNotV, dIf, dNeg, dNil, dCons, dCB, dTup, dLst, dCall, dCallV, dCallF, dFld, dNoPart, dPart, dSl, dIsSeq, dBM, dTM, dXf, dYes, fSub, fDiv, fMod, fPow, fAdd, fCat, fMul, fRep, fLt, fLe, fGt, fGe, fIs, fIsNot, fIx, fSl, fSlL, fLen, fList, fTuple, fMax2, fMin2, fMax, fMin, fAbs, fInt, fIsi, fIsiN, fIsiC, gN, gT, gT0, gTC, diSeq, diRng1, diRng2, diEnum, dstart, De.off, exD, suiteD, List.map_cons, List.map_nil, List.length_cons, List.length_nil, Nat.reduceAdd, Nat.reduceSub, List.replicate_succ, List.replicate_zero, List.getElem?_cons_zero, List.getElem?_cons_succ, List.set_cons_zero, List.set_cons_succ, Option.some.injEq, exists_eq_left', exists_eq_left, exists_and_left, D.int.injEq, D.bl.injEq, D.lst.injEq, D.tup.injEq, D.str.injEq, D.exc.injEq, List.cons.injEq, and_true, true_and, List.nil_append, List.cons_append, List.append_nil, reduceCtorEq, false_and, exists_false, or_false, false_or, or_true, true_or, and_false, Int.reduceNeg, decide_eq_true_eq, Bool.not_eq_true', decide_eq_false_iff_not, and_assoc, Nat.zero_le, List.length_map, Int.zero_add, Int.reduceLT, Int.reduceLE, Int.reducePow, Int.reduceToNat, Int.reduceAdd, Int.reduceMul, Int.reduceSub, Nat.reduceLeDiff, fEq_ints, fNe_ints, fEq_lstsI, fNe_lstsI, fEq_tupsI, fNe_tupsI, noLA_ints, fSum_lst, fSum_tup, fSorted_lst, fSorted_tup, ↓reduceIte, Bool.false_eq_true, Bool.true_eq_false, false_implies, true_implies, implies_true, forall_const, Bool.not_true, Bool.not_false]
    exact q k ⟨by omega, hj⟩
theorem whole_int {p : D} {lo hi : Int} (h : whole p lo hi = true) : ∃ m : Int, p = .int m ∧ lo ≤ m ∧ m ≤ hi := by
  cases p <;> try (cases h; done)
  rename_i i
  simp [whole] at h
  exact ⟨i, rfl, h⟩
def s_d_greatest_coin (cT cP : Addr) : SpD := fun ds P er => ∃ x y : D, ds = [x, y] ∧ kn x = true ∧ kn y = true ∧ (whole x 0 1000000000 = false → er cT (mostE 1000000000)) ∧ ∀ t, x = .int t → 0 ≤ t → t ≤ 1000000000 → (whole y 2 5 = false → er cP none) ∧ ∀ p, y = .int p → 2 ≤ p → p ≤ 5 → P (.int (upI t p))
theorem len_d_greatest_coin {a b : Addr} : ∀ ds P er, s_d_greatest_coin a b ds P er → ds.length = 2 := by rintro _ _ _ ⟨_, _, rfl, _⟩; rfl
theorem ok_greatest_coin {f : Addr} {fd : FuncData} (F : Fun K "greatest_coin" "greatest_coin" s_greatest_coin f fd) (T : Txt K mg cBadPeople cBadCount cBadTotal cBadCoin cBadUnlike) : FnOk P w K mg base (L2.CX P w) 4 f fd ps_greatest_coin (spOf (s_d_greatest_coin cBadTotal cBadPeople)) := by
  obtain ⟨f_check_total, fd_check_total, F_check_total, m_check_total, b_check_total⟩ := T.d_check_total
  have G_check_total : FnOk P w K mg base (L2.CX P w) 3 f_check_total fd_check_total ps_check_total (spOf (s_d_check_total cBadTotal)) := ok_check_total F_check_total T
  obtain ⟨f_up, fd_up, F_up, m_up, b_up⟩ := T.d_up
  have G_up : FnOk P w K mg base CX0 1 f_up fd_up ps_up (spOf (s_d_up)) := ok_up F_up T
  obtain ⟨f_check_people, fd_check_people, F_check_people, m_check_people, b_check_people, ds_check_people, d_check_people_1, b_check_people_1⟩ := T.d_check_people
  have G_check_people : FnOk P w K mg base (L2.CX P w) 3 f_check_people fd_check_people ps_check_people (spOf (s_d_check_people cBadPeople)) := ok_check_people F_check_people T
  obtain ⟨u_GREATEST_TOTAL, c_GREATEST_TOTAL, r_GREATEST_TOTAL⟩ := T.c_GREATEST_TOTAL
  obtain ⟨u_LEAST_PEOPLE, c_LEAST_PEOPLE, r_LEAST_PEOPLE⟩ := T.c_LEAST_PEOPLE
  refine fn_d (k := 3) (Oe := []) F sc_greatest_coin [] _ (len_d_greatest_coin) (by decide) (fun cdv A outer sh H E hr => (s_cons (s_exp (d_call (by decide) G_check_total (hr.mono (by decide)) (by rfl) m_check_total F_check_total.kp b_check_total .nil (fun _ _ _ => .nil) (fun σ => L2.passAt (L2.takes_of rfl rfl rfl rfl) σ) (a_cons (d_var (i := 0) (by decide) (pv 0)) (a_cons (d_c (y := .int 1000000000) (fun _ _ _ => .int _) (pe_glob rfl c_GREATEST_TOTAL r_GREATEST_TOTAL)) a_nil))))
      (s_one (s_ret (O2 := []) (fun _ z => nomatch z) (d_call (by decide) G_up (hr.mono (by decide)) (by rfl) m_up F_up.kp b_up .nil (fun _ _ _ => .nil) pass0A (a_cons (d_var (i := 0) (by decide) (pv 0)) (a_cons (d_call (by decide) G_check_people (hr.mono (by decide)) (by rfl) m_check_people F_check_people.kp b_check_people .nil (fun _ _ _ => .nil) (fun σ => L2.passAt (L2.takes_of rfl rfl rfl rfl) σ) (a_cons (d_var (i := 1) (by decide) (pv 1)) (a_cons (d_c (y := .int 2) (fun _ _ _ => .int _) (pe_glob rfl c_LEAST_PEOPLE r_LEAST_PEOPLE)) a_nil))) a_nil)))) (by decide)))) ?_
  rintro ds P er ⟨x, y, rfl, hx, hy, qe, q⟩
  refine sq_cut fun R eR => ?_
  simp only [fLenSet, fMul3, dTr, tru, dAsgT, gS, dMake2, dCBK, fMinD, dCallG, fRepr, fEqS, dSq, dAsg, dNx, dExp, dRet, dRetN, dIfS, dBk, dCt, dAppend, dInsert, dRemove, dPopAt, dSetAt, dRaise, dRaise0, dRaiseL, dVar, dC, dOp, dT, dChain, dNotT, dAndT, dOrT, dAndV, dOrV, dNotV, dIf, dNeg, dNil, dCons, dCB, dTup, dLst, dCall, dCallV, dCallF, dFld, dNoPart, dPart, dSl, dIsSeq, dBM, dTM, dXf, dYes, fSub, fDiv, fMod, fPow, fAdd, fCat, fMul, fRep, fLt, fLe, fGt, fGe, fIs, fIsNot, fIx, fSl, fSlL, fLen, fList, fTuple, fMax2, fMin2, fMax, fMin, fAbs, fInt, fIsi, fIsiN, fIsiC, gN, gT, gT0, gTC, diSeq, diRng1, diRng2, diEnum, dstart, De.off, exD, suiteD, List.map_cons, List.map_nil, List.length_cons, List.length_nil, Nat.reduceAdd, Nat.reduceSub, List.replicate_succ, List.replicate_zero, List.getElem?_cons_zero, List.getElem?_cons_succ, List.set_cons_zero, List.set_cons_succ, Option.some.injEq, exists_eq_left', exists_eq_left, exists_and_left, D.int.injEq, D.bl.injEq, D.lst.injEq, D.tup.injEq, D.str.injEq, D.exc.injEq, List.cons.injEq, and_true, true_and, List.nil_append, List.cons_append, List.append_nil, reduceCtorEq, false_and, exists_false, or_false, false_or, or_true, true_or, and_false, Int.reduceNeg, decide_eq_true_eq, Bool.not_eq_true', decide_eq_false_iff_not, and_assoc, Nat.zero_le, List.length_map, Int.zero_add, Int.reduceLT, Int.reduceLE, Int.reducePow, Int.reduceToNat, Int.reduceAdd, Int.reduceMul, Int.reduceSub, Nat.reduceLeDiff, fEq_ints, fNe_ints, fEq_lstsI, fNe_lstsI, fEq_tupsI, fNe_tupsI, noLA_ints, fSum_lst, fSum_tup, fSorted_lst, fSorted_tup, ↓reduceIte, Bool.false_eq_true, Bool.true_eq_false, false_implies, true_implies, implies_true, forall_const, Bool.not_true, Bool.not_false, s_d_check_total]
  refine ⟨hx, fun hw => ?_, qe⟩
  obtain ⟨t, rfl, t0, t1⟩ := whole_int hw
  obtain ⟨q1, q2⟩ := q t rfl t0 t1
  subst eR
  simp only [fLenSet, fMul3, dTr, tru, dAsgT, gS, dMake2, dCBK, fMinD, dCallG, fRepr, fEqS, dSq, dAsg, dNx, dExp, dRet, dRetN, dIfS, dBk, dCt, dAppend, dInsert, dRemove, dPopAt, dSetAt, dRaise, dRaise0, dRaiseL, dVar, dC, dOp, dT, dChain, dNotT, dAndT, dOrT, dAndV, dOrV, dNotV, dIf, dNeg, dNil, dCons, dCB, dTup, dLst, dCall, dCallV, dCallF, dFld, dNoPart, dPart, dSl, dIsSeq, dBM, dTM, dXf, dYes, fSub, fDiv, fMod, fPow, fAdd, fCat, fMul, fRep, fLt, fLe, fGt, fGe, fIs, fIsNot, fIx, fSl, fSlL, fLen, fList, fTuple, fMax2, fMin2, fMax, fMin, fAbs, fInt, fIsi, fIsiN, fIsiC, gN, gT, gT0, gTC, diSeq, diRng1, diRng2, diEnum, dstart, De.off, exD, suiteD, List.map_cons, List.map_nil, List.length_cons, List.length_nil, Nat.reduceAdd, Nat.reduceSub, List.replicate_succ, List.replicate_zero, List.getElem?_cons_zero, List.getElem?_cons_succ, List.set_cons_zero, List.set_cons_succ, Option.some.injEq, exists_eq_left', exists_eq_left, exists_and_left, D.int.injEq, D.bl.injEq, D.lst.injEq, D.tup.injEq, D.str.injEq, D.exc.injEq, List.cons.injEq, and_true, true_and, List.nil_append, List.cons_append, List.append_nil, reduceCtorEq, false_and, exists_false, or_false, false_or, or_true, true_or, and_false, Int.reduceNeg, decide_eq_true_eq, Bool.not_eq_true', decide_eq_false_iff_not, and_assoc, Nat.zero_le, List.length_map, Int.zero_add, Int.reduceLT, Int.reduceLE, Int.reducePow, Int.reduceToNat, Int.reduceAdd, Int.reduceMul, Int.reduceSub, Nat.reduceLeDiff, fEq_ints, fNe_ints, fEq_lstsI, fNe_lstsI, fEq_tupsI, fNe_tupsI, noLA_ints, fSum_lst, fSum_tup, fSorted_lst, fSorted_tup, ↓reduceIte, Bool.false_eq_true, Bool.true_eq_false, false_implies, true_implies, implies_true, forall_const, Bool.not_true, Bool.not_false, s_d_check_people, s_d_up]
  refine ⟨hy, fun hw => ?_, q1⟩
  obtain ⟨p, rfl, p0, p1⟩ := whole_int hw
  exact ⟨p, rfl, by omega, by omega, q2 p rfl p0 p1⟩
def s_d_least_total_with (cC cP : Addr) : SpD := fun ds P er => ∃ x y : D, ds = [x, y] ∧ kn x = true ∧ kn y = true ∧ (whole x 1 1000000000 = false → er cC none) ∧ ∀ c, x = .int c → 1 ≤ c → c ≤ 1000000000 → (whole y 2 5 = false → er cP none) ∧ ∀ p, y = .int p → 2 ≤ p → p ≤ 5 → P (.int (p * (c - 1) + 1))
theorem len_d_least_total_with {a b : Addr} : ∀ ds P er, s_d_least_total_with a b ds P er → ds.length = 2 := by rintro _ _ _ ⟨_, _, rfl, _⟩; rfl
theorem ok_least_total_with {f : Addr} {fd : FuncData} (F : Fun K "least_total_with" "least_total_with" s_least_total_with f fd) (T : Txt K mg cBadPeople cBadCount cBadTotal cBadCoin cBadUnlike) : FnOk P w K mg base (L2.CX P w) 4 f fd ps_least_total_with (spOf (s_d_least_total_with cBadCoin cBadPeople)) := by
  obtain ⟨f_check_coin, fd_check_coin, F_check_coin, m_check_coin, b_check_coin⟩ := T.d_check_coin
  have G_check_coin : FnOk P w K mg base (L2.CX P w) 3 f_check_coin fd_check_coin ps_check_coin (spOf (s_d_check_coin cBadCoin)) := ok_check_coin F_check_coin T
  obtain ⟨f_check_people, fd_check_people, F_check_people, m_check_people, b_check_people, ds_check_people, d_check_people_1, b_check_people_1⟩ := T.d_check_people
  have G_check_people : FnOk P w K mg base (L2.CX P w) 3 f_check_people fd_check_people ps_check_people (spOf (s_d_check_people cBadPeople)) := ok_check_people F_check_people T
  obtain ⟨u_LEAST_PEOPLE, c_LEAST_PEOPLE, r_LEAST_PEOPLE⟩ := T.c_LEAST_PEOPLE
  refine fn_d (k := 3) (Oe := []) F sc_least_total_with [] _ (len_d_least_total_with) (by decide) (fun cdv A outer sh H E hr => (s_cons (s_exp (d_call (by decide) G_check_coin (hr.mono (by decide)) (by rfl) m_check_coin F_check_coin.kp b_check_coin .nil (fun _ _ _ => .nil) (fun σ => L2.passAt (L2.takes_of rfl rfl rfl rfl) σ) (a_cons (d_var (i := 0) (by decide) (pv 0)) a_nil)))
      (s_one (s_ret (O2 := []) (fun _ z => nomatch z) (d_op op_add4 l_add (toV (d_op op_mul2 l_mul (toV (d_call (by decide) G_check_people (hr.mono (by decide)) (by rfl) m_check_people F_check_people.kp b_check_people .nil (fun _ _ _ => .nil) (fun σ => L2.passAt (L2.takes_of rfl rfl rfl rfl) σ) (a_cons (d_var (i := 1) (by decide) (pv 1)) (a_cons (d_c (y := .int 2) (fun _ _ _ => .int _) (pe_glob rfl c_LEAST_PEOPLE r_LEAST_PEOPLE)) a_nil)))) (toV (d_op op_sub l_sub (toV (d_var (i := 0) (by decide) (pv 0))) (toV (d_c (y := .int 1) (fun _ _ _ => .int _) pe_int)))))) (toV (d_c (y := .int 1) (fun _ _ _ => .int _) pe_int)))) (by decide)))) ?_
  rintro ds P er ⟨x, y, rfl, hx, hy, qe, q⟩
  refine sq_cut fun R eR => ?_
  simp only [fLenSet, fMul3, dTr, tru, dAsgT, gS, dMake2, dCBK, fMinD, dCallG, fRepr, fEqS, dSq, dAsg, dNx, dExp, dRet, dRetN, dIfS, dBk, dCt, dAppend, dInsert, dRemove, dPopAt, dSetAt, dRaise, dRaise0, dRaiseL, dVar, dC, dOp, dT, dChain, dNotT, dAndT, dOrT, dAndV, dOrV, dNotV, dIf, dNeg, dNil, dCons, dCB, dTup, dLst, dCall, dCallV, dCallF, dFld, dNoPart, dPart, dSl, dIsSeq, dBM, dTM, dXf, dYes, fSub, fDiv, fMod, fPow, fAdd, fCat, fMul, fRep, fLt, fLe, fGt, fGe, fIs, fIsNot, fIx, fSl, fSlL, fLen, fList, fTuple, fMax2, fMin2, fMax, fMin, fAbs, fInt, fIsi, fIsiN, fIsiC, gN, gT, gT0, gTC, diSeq, diRng1, diRng2, diEnum, dstart, De.off, exD, suiteD, List.map_cons, List.map_nil, List.length_cons, List.length_nil, Nat.reduceAdd, Nat.reduceSub, List.replicate_succ, List.replicate_zero, List.getElem?_cons_zero, List.getElem?_cons_succ, List.set_cons_zero, List.set_cons_succ, Option.some.injEq, exists_eq_left', exists_eq_left, exists_and_left, D.int.injEq, D.bl.injEq, D.lst.injEq, D.tup.injEq, D.str.injEq, D.exc.injEq, List.cons.injEq, and_true, true_and, List.nil_append, List.cons_append, List.append_nil, reduceCtorEq, false_and, exists_false, or_false, false_or, or_true, true_or, and_false, Int.reduceNeg, decide_eq_true_eq, Bool.not_eq_true', decide_eq_false_iff_not, and_assoc, Nat.zero_le, List.length_map, Int.zero_add, Int.reduceLT, Int.reduceLE, Int.reducePow, Int.reduceToNat, Int.reduceAdd, Int.reduceMul, Int.reduceSub, Nat.reduceLeDiff, fEq_ints, fNe_ints, fEq_lstsI, fNe_lstsI, fEq_tupsI, fNe_tupsI, noLA_ints, fSum_lst, fSum_tup, fSorted_lst, fSorted_tup, ↓reduceIte, Bool.false_eq_true, Bool.true_eq_false, false_implies, true_implies, implies_true, forall_const, Bool.not_true, Bool.not_false, s_d_check_coin]
  refine ⟨hx, fun hw => ?_, qe⟩
  obtain ⟨t, rfl, t0, t1⟩ := whole_int hw
  obtain ⟨q1, q2⟩ := q t rfl t0 t1
  subst eR
  simp only [fLenSet, fMul3, dTr, tru, dAsgT, gS, dMake2, dCBK, fMinD, dCallG, fRepr, fEqS, dSq, dAsg, dNx, dExp, dRet, dRetN, dIfS, dBk, dCt, dAppend, dInsert, dRemove, dPopAt, dSetAt, dRaise, dRaise0, dRaiseL, dVar, dC, dOp, dT, dChain, dNotT, dAndT, dOrT, dAndV, dOrV, dNotV, dIf, dNeg, dNil, dCons, dCB, dTup, dLst, dCall, dCallV, dCallF, dFld, dNoPart, dPart, dSl, dIsSeq, dBM, dTM, dXf, dYes, fSub, fDiv, fMod, fPow, fAdd, fCat, fMul, fRep, fLt, fLe, fGt, fGe, fIs, fIsNot, fIx, fSl, fSlL, fLen, fList, fTuple, fMax2, fMin2, fMax, fMin, fAbs, fInt, fIsi, fIsiN, fIsiC, gN, gT, gT0, gTC, diSeq, diRng1, diRng2, diEnum, dstart, De.off, exD, suiteD, List.map_cons, List.map_nil, List.length_cons, List.length_nil, Nat.reduceAdd, Nat.reduceSub, List.replicate_succ, List.replicate_zero, List.getElem?_cons_zero, List.getElem?_cons_succ, List.set_cons_zero, List.set_cons_succ, Option.some.injEq, exists_eq_left', exists_eq_left, exists_and_left, D.int.injEq, D.bl.injEq, D.lst.injEq, D.tup.injEq, D.str.injEq, D.exc.injEq, List.cons.injEq, and_true, true_and, List.nil_append, List.cons_append, List.append_nil, reduceCtorEq, false_and, exists_false, or_false, false_or, or_true, true_or, and_false, Int.reduceNeg, decide_eq_true_eq, Bool.not_eq_true', decide_eq_false_iff_not, and_assoc, Nat.zero_le, List.length_map, Int.zero_add, Int.reduceLT, Int.reduceLE, Int.reducePow, Int.reduceToNat, Int.reduceAdd, Int.reduceMul, Int.reduceSub, Nat.reduceLeDiff, fEq_ints, fNe_ints, fEq_lstsI, fNe_lstsI, fEq_tupsI, fNe_tupsI, noLA_ints, fSum_lst, fSum_tup, fSorted_lst, fSorted_tup, ↓reduceIte, Bool.false_eq_true, Bool.true_eq_false, false_implies, true_implies, implies_true, forall_const, Bool.not_true, Bool.not_false, s_d_check_people]
  refine ⟨hy, fun hw => ?_, q1⟩
  obtain ⟨p, rfl, p0, p1⟩ := whole_int hw
  simp only [fLenSet, fMul3, dTr, tru, dAsgT, gS, dMake2, dCBK, fMinD, dCallG, fRepr, fEqS, dSq, dAsg, dNx, dExp, dRet, dRetN, dIfS, dBk, dCt, dAppend, dInsert, dRemove, dPopAt, dSetAt, dRaise, dRaise0, dRaiseL, dVar, dC, dOp, dT, dChain, dNotT, dAndT, dOrT, dAndV, dOrV, dNotV, dIf, dNeg, dNil, dCons, dCB, dTup, dLst, dCall, dCallV, dCallF, dFld, dNoPart, dPart, dSl, dIsSeq, dBM, dTM, dXf, dYes, fSub, fDiv, fMod, fPow, fAdd, fCat, fMul, fRep, fLt, fLe, fGt, fGe, fIs, fIsNot, fIx, fSl, fSlL, fLen, fList, fTuple, fMax2, fMin2, fMax, fMin, fAbs, fInt, fIsi, fIsiN, fIsiC, gN, gT, gT0, gTC, diSeq, diRng1, diRng2, diEnum, dstart, De.off, exD, suiteD, List.map_cons, List.map_nil, List.length_cons, List.length_nil, Nat.reduceAdd, Nat.reduceSub, List.replicate_succ, List.replicate_zero, List.getElem?_cons_zero, List.getElem?_cons_succ, List.set_cons_zero, List.set_cons_succ, Option.some.injEq, exists_eq_left', exists_eq_left, exists_and_left, D.int.injEq, D.bl.injEq, D.lst.injEq, D.tup.injEq, D.str.injEq, D.exc.injEq, List.cons.injEq, and_true, true_and, List.nil_append, List.cons_append, List.append_nil, reduceCtorEq, false_and, exists_false, or_false, false_or, or_true, true_or, and_false, Int.reduceNeg, decide_eq_true_eq, Bool.not_eq_true', decide_eq_false_iff_not, and_assoc, Nat.zero_le, List.length_map, Int.zero_add, Int.reduceLT, Int.reduceLE, Int.reducePow, Int.reduceToNat, Int.reduceAdd, Int.reduceMul, Int.reduceSub, Nat.reduceLeDiff, fEq_ints, fNe_ints, fEq_lstsI, fNe_lstsI, fEq_tupsI, fNe_tupsI, noLA_ints, fSum_lst, fSum_tup, fSorted_lst, fSorted_tup, ↓reduceIte, Bool.false_eq_true, Bool.true_eq_false, false_implies, true_implies, implies_true, forall_const, Bool.not_true, Bool.not_false]
  exact ⟨.inl ⟨by omega, by omega⟩, q2 p rfl p0 p1⟩
def s_d_fewest_with (cC cP : Addr) : SpD := fun ds P er => ∃ x y : D, ds = [x, y] ∧ kn x = true ∧ kn y = true ∧ (whole x 1 1000000000 = false → er cC none) ∧ ∀ c, x = .int c → 1 ≤ c → c ≤ 1000000000 → (whole y 2 5 = false → er cP none) ∧ ∀ p, y = .int p → 2 ≤ p → p ≤ 5 → ∀ k : Nat, IsFew p ((p - 1) * (c - 1)) k → P (.int (k + 1))
theorem len_d_fewest_with {a b : Addr} : ∀ ds P er, s_d_fewest_with a b ds P er → ds.length = 2 := by rintro _ _ _ ⟨_, _, rfl, _⟩; rfl
theorem ok_fewest_with {f : Addr} {fd : FuncData} (F : Fun K "fewest_with" "fewest_with" s_fewest_with f fd) (T : Txt K mg cBadPeople cBadCount cBadTotal cBadCoin cBadUnlike) : FnOk P w K mg base (L2.CX P w) 4 f fd ps_fewest_with (spOf (s_d_fewest_with cBadCoin cBadPeople)) := by
  obtain ⟨f_check_coin, fd_check_coin, F_check_coin, m_check_coin, b_check_coin⟩ := T.d_check_coin
  have G_check_coin : FnOk P w K mg base (L2.CX P w) 3 f_check_coin fd_check_coin ps_check_coin (spOf (s_d_check_coin cBadCoin)) := ok_check_coin F_check_coin T
  obtain ⟨f_check_people, fd_check_people, F_check_people, m_check_people, b_check_people, ds_check_people, d_check_people_1, b_check_people_1⟩ := T.d_check_people
  have G_check_people : FnOk P w K mg base (L2.CX P w) 3 f_check_people fd_check_people ps_check_people (spOf (s_d_check_people cBadPeople)) := ok_check_people F_check_people T
  obtain ⟨f_fewest_for, fd_fewest_for, F_fewest_for, m_fewest_for, b_fewest_for⟩ := T.d_fewest_for
  have G_fewest_for : FnOk P w K mg base CX0 2 f_fewest_for fd_fewest_for ps_fewest_for (spOf (s_d_fewest_for)) := ok_fewest_for F_fewest_for T
  obtain ⟨u_LEAST_PEOPLE, c_LEAST_PEOPLE, r_LEAST_PEOPLE⟩ := T.c_LEAST_PEOPLE
  refine fn_d (k := 3) (Oe := []) F sc_fewest_with [] _ (len_d_fewest_with) (by decide) (fun cdv A outer sh H E hr => (s_cons (s_exp (d_call (by decide) G_check_coin (hr.mono (by decide)) (by rfl) m_check_coin F_check_coin.kp b_check_coin .nil (fun _ _ _ => .nil) (fun σ => L2.passAt (L2.takes_of rfl rfl rfl rfl) σ) (a_cons (d_var (i := 0) (by decide) (pv 0)) a_nil)))
      (s_cons (s_exp (d_call (by decide) G_check_people (hr.mono (by decide)) (by rfl) m_check_people F_check_people.kp b_check_people .nil (fun _ _ _ => .nil) (fun σ => L2.passAt (L2.takes_of rfl rfl rfl rfl) σ) (a_cons (d_var (i := 1) (by decide) (pv 1)) (a_cons (d_c (y := .int 2) (fun _ _ _ => .int _) (pe_glob rfl c_LEAST_PEOPLE r_LEAST_PEOPLE)) a_nil))))
      (s_one (s_ret (O2 := []) (fun _ z => nomatch z) (d_op op_add4 l_add (toV (d_call (by decide) G_fewest_for (hr.mono (by decide)) (by rfl) m_fewest_for F_fewest_for.kp b_fewest_for .nil (fun _ _ _ => .nil) pass0A (a_cons (d_op op_mul2 l_mul (toV (d_op op_sub l_sub (toV (d_var (i := 1) (by decide) (pv 1))) (toV (d_c (y := .int 1) (fun _ _ _ => .int _) pe_int)))) (toV (d_op op_sub l_sub (toV (d_var (i := 0) (by decide) (pv 0))) (toV (d_c (y := .int 1) (fun _ _ _ => .int _) pe_int))))) (a_cons (d_var (i := 1) (by decide) (pv 1)) a_nil)))) (toV (d_c (y := .int 1) (fun _ _ _ => .int _) pe_int)))) (by decide))))) ?_
  rintro ds P er ⟨x, y, rfl, hx, hy, qe, q⟩
  refine sq_cut fun R eR => ?_
  simp only [fLenSet, fMul3, dTr, tru, dAsgT, gS, dMake2, dCBK, fMinD, dCallG, fRepr, fEqS, dSq, dAsg, dNx, dExp, dRet, dRetN, dIfS, dBk, dCt, dAppend, dInsert, dRemove, dPopAt, dSetAt, dRaise, dRaise0, dRaiseL, dVar, dC, dOp, dT, dChain, dNotT, dAndT, dOrT, dAndV, dOrV, dNotV, dIf, dNeg, dNil, dCons, dCB, dTup, dLst, dCall, dCallV, dCallF, dFld, dNoPart, dPart, dSl, dIsSeq, dBM, dTM, dXf, dYes, fSub, fDiv, fMod, fPow, fAdd, fCat, fMul, fRep, fLt, fLe, fGt, fGe, fIs, fIsNot, fIx, fSl, fSlL, fLen, fList, fTuple, fMax2, fMin2, fMax, fMin, fAbs, fInt, fIsi, fIsiN, fIsiC, gN, gT, gT0, gTC, diSeq, diRng1, diRng2, diEnum, dstart, De.off, exD, suiteD, List.map_cons, List.map_nil, List.length_cons, List.length_nil, Nat.reduceAdd, Nat.reduceSub, List.replicate_succ, List.replicate_zero, List.getElem?_cons_zero, List.getElem?_cons_succ, List.set_cons_zero, List.set_cons_succ, Option.some.injEq, exists_eq_left', exists_eq_left, exists_and_left, D.int.injEq, D.bl.injEq, D.lst.injEq, D.tup.injEq, D.str.injEq, D.exc.injEq, List.cons.injEq, and_true, true_and, List.nil_append, List.cons_append, List.append_nil, reduceCtorEq, false_and, exists_false, or_false, false_or, or_true, true_or, and_false, Int.reduceNeg, decide_eq_true_eq, Bool.not_eq_true', decide_eq_false_iff_not, and_assoc, Nat.zero_le, List.length_map, Int.zero_add, Int.reduceLT, Int.reduceLE, Int.reducePow, Int.reduceToNat, Int.reduceAdd, Int.reduceMul, Int.reduceSub, Nat.reduceLeDiff, fEq_ints, fNe_ints, fEq_lstsI, fNe_lstsI, fEq_tupsI, fNe_tupsI, noLA_ints, fSum_lst, fSum_tup, fSorted_lst, fSorted_tup, ↓reduceIte, Bool.false_eq_true, Bool.true_eq_false, false_implies, true_implies, implies_true, forall_const, Bool.not_true, Bool.not_false, s_d_check_coin]
  refine ⟨hx, fun hw => ?_, qe⟩
  obtain ⟨t, rfl, t0, t1⟩ := whole_int hw
  obtain ⟨q1, q2⟩ := q t rfl t0 t1
  subst eR
  refine sq_cut fun R eR => ?_
  simp only [fLenSet, fMul3, dTr, tru, dAsgT, gS, dMake2, dCBK, fMinD, dCallG, fRepr, fEqS, dSq, dAsg, dNx, dExp, dRet, dRetN, dIfS, dBk, dCt, dAppend, dInsert, dRemove, dPopAt, dSetAt, dRaise, dRaise0, dRaiseL, dVar, dC, dOp, dT, dChain, dNotT, dAndT, dOrT, dAndV, dOrV, dNotV, dIf, dNeg, dNil, dCons, dCB, dTup, dLst, dCall, dCallV, dCallF, dFld, dNoPart, dPart, dSl, dIsSeq, dBM, dTM, dXf, dYes, fSub, fDiv, fMod, fPow, fAdd, fCat, fMul, fRep, fLt, fLe, fGt, fGe, fIs, fIsNot, fIx, fSl, fSlL, fLen, fList, fTuple, fMax2, fMin2, fMax, fMin, fAbs, fInt, fIsi, fIsiN, fIsiC, gN, gT, gT0, gTC, diSeq, diRng1, diRng2, diEnum, dstart, De.off, exD, suiteD, List.map_cons, List.map_nil, List.length_cons, List.length_nil, Nat.reduceAdd, Nat.reduceSub, List.replicate_succ, List.replicate_zero, List.getElem?_cons_zero, List.getElem?_cons_succ, List.set_cons_zero, List.set_cons_succ, Option.some.injEq, exists_eq_left', exists_eq_left, exists_and_left, D.int.injEq, D.bl.injEq, D.lst.injEq, D.tup.injEq, D.str.injEq, D.exc.injEq, List.cons.injEq, and_true, true_and, List.nil_append, List.cons_append, List.append_nil, reduceCtorEq, false_and, exists_false, or_false, false_or, or_true, true_or, and_false, Int.reduceNeg, decide_eq_true_eq, Bool.not_eq_true', decide_eq_false_iff_not, and_assoc, Nat.zero_le, List.length_map, Int.zero_add, Int.reduceLT, Int.reduceLE, Int.reducePow, Int.reduceToNat, Int.reduceAdd, Int.reduceMul, Int.reduceSub, Nat.reduceLeDiff, fEq_ints, fNe_ints, fEq_lstsI, fNe_lstsI, fEq_tupsI, fNe_tupsI, noLA_ints, fSum_lst, fSum_tup, fSorted_lst, fSorted_tup, ↓reduceIte, Bool.false_eq_true, Bool.true_eq_false, false_implies, true_implies, implies_true, forall_const, Bool.not_true, Bool.not_false, s_d_check_people]
  refine ⟨hy, fun hw => ?_, q1⟩
  obtain ⟨p, rfl, p0, p1⟩ := whole_int hw
  subst eR
  simp only [fLenSet, fMul3, dTr, tru, dAsgT, gS, dMake2, dCBK, fMinD, dCallG, fRepr, fEqS, dSq, dAsg, dNx, dExp, dRet, dRetN, dIfS, dBk, dCt, dAppend, dInsert, dRemove, dPopAt, dSetAt, dRaise, dRaise0, dRaiseL, dVar, dC, dOp, dT, dChain, dNotT, dAndT, dOrT, dAndV, dOrV, dNotV, dIf, dNeg, dNil, dCons, dCB, dTup, dLst, dCall, dCallV, dCallF, dFld, dNoPart, dPart, dSl, dIsSeq, dBM, dTM, dXf, dYes, fSub, fDiv, fMod, fPow, fAdd, fCat, fMul, fRep, fLt, fLe, fGt, fGe, fIs, fIsNot, fIx, fSl, fSlL, fLen, fList, fTuple, fMax2, fMin2, fMax, fMin, fAbs, fInt, fIsi, fIsiN, fIsiC, gN, gT, gT0, gTC, diSeq, diRng1, diRng2, diEnum, dstart, De.off, exD, suiteD, List.map_cons, List.map_nil, List.length_cons, List.length_nil, Nat.reduceAdd, Nat.reduceSub, List.replicate_succ, List.replicate_zero, List.getElem?_cons_zero, List.getElem?_cons_succ, List.set_cons_zero, List.set_cons_succ, Option.some.injEq, exists_eq_left', exists_eq_left, exists_and_left, D.int.injEq, D.bl.injEq, D.lst.injEq, D.tup.injEq, D.str.injEq, D.exc.injEq, List.cons.injEq, and_true, true_and, List.nil_append, List.cons_append, List.append_nil, reduceCtorEq, false_and, exists_false, or_false, false_or, or_true, true_or, and_false, Int.reduceNeg, decide_eq_true_eq, Bool.not_eq_true', decide_eq_false_iff_not, and_assoc, Nat.zero_le, List.length_map, Int.zero_add, Int.reduceLT, Int.reduceLE, Int.reducePow, Int.reduceToNat, Int.reduceAdd, Int.reduceMul, Int.reduceSub, Nat.reduceLeDiff, fEq_ints, fNe_ints, fEq_lstsI, fNe_lstsI, fEq_tupsI, fNe_tupsI, noLA_ints, fSum_lst, fSum_tup, fSorted_lst, fSorted_tup, ↓reduceIte, Bool.false_eq_true, Bool.true_eq_false, false_implies, true_implies, implies_true, forall_const, Bool.not_true, Bool.not_false, s_d_fewest_for]
  exact ⟨.inl ⟨by omega, by omega⟩, p0, by omega, q2 p rfl p0 p1⟩

end
end My
set_option Elab.async false
set_option linter.all false
set_option maxRecDepth 100000
set_option maxHeartbeats 4000000
namespace My
open PySem PySem.Spec PyProof.Rows L2 Gen DL
section
variable {P : Program} {w : World} {K : PySem.W.Frag} {mg : Str → Option Value} {base : Heap} { cBadPeople cBadCount cBadTotal cBadCoin cBadUnlike : Addr}
abbrev tupI (ms : List Int) : D := .tup (ms.map D.int)
theorem rep_int (k : Nat) (i : Int) : (List.replicate k [D.int i]).flatten = (List.replicate k i).map D.int := by
  induction k with
  | zero => rfl
  | succ k ih => rw [List.replicate_succ, List.replicate_succ, List.flatten_cons, ih]; rfl
theorem atI_row {rows : List (List Int)} {j : Nat} (h : j < rows.length) : atI (rows.map tupI) (j : Int) = some (tupI rows[j]) :=
  atI_nat (by rw [List.getElem?_map, List.getElem?_eq_getElem h]; rfl)
def s_d_greatest_grown : SpD := fun ds P _ => ∃ (rows : List (List Int)) (u m : Nat) (p : Int), ds = [.lst (rows.map tupI), .int m, .int p] ∧ 2 ≤ p ∧ p ≤ 5 ∧ m ≤ 12 ∧ (∀ j : Nat, j ≤ m → ∃ r, rows[j]? = some r ∧ Best p u j r) ∧ ∀ r, Best p (u + 1) m r → P (tupI r)
theorem len_d_greatest_grown : ∀ ds P er, s_d_greatest_grown ds P er → ds.length = 3 := by rintro _ _ _ ⟨_, _, _, _, rfl, _⟩; rfl
theorem n0_greatest_grown : ∀ ds P er, s_d_greatest_grown ds P er → s_d_greatest_grown ds P noX := fun _ _ _ h => h
theorem ok_greatest_grown {f : Addr} {fd : FuncData} (F : Fun K "greatest_grown" "greatest_grown" s_greatest_grown f fd) (T : Txt K mg cBadPeople cBadCount cBadTotal cBadCoin cBadUnlike) : FnOk P w K mg base CX0 2 f fd ps_greatest_grown (spOf (s_d_greatest_grown)) := by
  obtain ⟨f_room_at, fd_room_at, F_room_at, m_room_at, b_room_at⟩ := T.d_room_at
  have G_room_at : FnOk P w K mg base CX0 1 f_room_at fd_room_at ps_room_at (spOf (s_d_room_at)) := ok_room_at F_room_at T
  refine fn0_d (k := 1) (Oe := []) F sc_greatest_grown [] _ (len_d_greatest_grown) (by decide) (fun cdv A outer sh H E hr => (s_cons (s_set (i := 3) (by decide) sc_greatest_grown.nd rfl (Or.inl rfl) (d_ix ix_seq l_ix (toV (d_var (i := 0) (by decide) (pv 0))) (toV (d_var (i := 1) (by decide) (pv 1))) (fun _ _ => rfl)))
      (s_cons (s_for (vs := [4]) PassesOwn.never rfl (by decide) (pi_range1 (by rfl) T.n_range (pa_cons (d_var (i := 1) (by decide) (pv 1)) pa_nil)) (li_rng1 (own := false)) (pg_name (i := 4) sc_greatest_grown.nd rfl (Or.inl rfl)) (lg_name (i := 4) (by decide) (by decide))
      (s_cons (s_set (i := 5) (by decide) sc_greatest_grown.nd rfl (Or.inl rfl) (d_call (by decide) G_room_at (hr.mono (by decide)) (by rfl) m_room_at F_room_at.kp b_room_at .nil (fun _ _ _ => .nil) pass0A (a_cons (d_callB (cr_sumE rfl) c_sum (by rfl) T.n_sum (by decide +kernel) (v_cons (toV (d_ix ix_seq l_ix (toV (d_var (i := 0) (by decide) (pv 0))) (toV (d_var (i := 4) (by decide) (pv 4))) (fun _ _ => rfl))) v_nil)) (a_cons (d_var (i := 2) (by decide) (pv 2)) a_nil))))
      (s_one (s_if (d_tcmp op_gt l_gt (toV (d_op op_add4 l_add (toV (d_callB (cr_sumE rfl) c_sum (by rfl) T.n_sum (by decide +kernel) (v_cons (toV (d_ix ix_seq l_ix (toV (d_var (i := 0) (by decide) (pv 0))) (toV (d_var (i := 4) (by decide) (pv 4))) (fun _ _ => rfl))) v_nil))) (toV (d_op op_mul2 l_mul (toV (d_var (i := 5) (by decide) (pv 5))) (toV (d_op op_sub l_sub (toV (d_var (i := 1) (by decide) (pv 1))) (toV (d_var (i := 4) (by decide) (pv 4))))))))) (toV (d_callB (cr_sumE rfl) c_sum (by rfl) T.n_sum (by decide +kernel) (v_cons (toV (d_var (i := 3) (by decide) (pv 3))) v_nil))) (nomark _)) (s_one (s_set (i := 3) (by decide) sc_greatest_grown.nd rfl (Or.inl rfl) (d_op op_add4 l_add (toV (d_ix ix_seq l_ix (toV (d_var (i := 0) (by decide) (pv 0))) (toV (d_var (i := 4) (by decide) (pv 4))) (fun _ _ => rfl))) (toV (d_op op_mul3 l_mul3 (toV (d_tup (a_cons (d_var (i := 5) (by decide) (pv 5)) a_nil))) (toV (d_op op_sub l_sub (toV (d_var (i := 1) (by decide) (pv 1))) (toV (d_var (i := 4) (by decide) (pv 4))))))))) (fun _ z => z)) (s_nil (fun _ z => z))) (fun _ z => z))))
      (s_one (s_ret (O2 := []) (fun _ z => nomatch z) (d_var (i := 3) (by decide) (pv 3))) (by decide))))) ?_ n0_greatest_grown
  rintro ds P ⟨rows, u, m, p, rfl, p0, p1, hm, hB, q⟩
  have small : (1000 : Nat) < sizeLine := by decide
  obtain ⟨B, hBd⟩ : ∃ B : Nat → List Int, B = fun j => rows[j]?.getD [] := ⟨_, rfl⟩
  have hb : ∀ j, j ≤ m → Best p u j (B j) ∧ rows[j]? = some (B j) := fun j hj => by
    obtain ⟨r, h1, h2⟩ := hB j hj
    have e : B j = r := by rw [hBd]; simp [h1]
    rw [e]
    exact ⟨h2, h1⟩
  have at_ : ∀ j : Nat, j ≤ m → atI (rows.map tupI) (j : Int) = some (tupI (B j)) := fun j hj =>
    atI_nat (by rw [List.getElem?_map, (hb j hj).2]; rfl)
  refine sq_cut fun R eR => ?_
  simp only [fLenSet, fMul3, dTr, tru, dAsgT, gS, dMake2, dCBK, fMinD, dCallG, fRepr, fEqS, dSq, dAsg, dNx, dExp, dRet, dRetN, dIfS, dBk, dCt, dAppend, dInsert, dRemove, dPopAt, dSetAt, dRaise, dRaise0, dRaiseL, dVar, dC, dOp, dT, dChain, dNotT, dAndT, dOrT, dAndV, dOrV, dNotV, dIf, dNeg, dNil, dCons, dCB, dTup, dLst, dCall, dCallV, dCallF, dFld, dNoPart, dPart, dSl, dIsSeq, dBM, dTM, dXf, dYes, fSub, fDiv, fMod, fPow, fAdd, fCat, fMul, fRep, fLt, fLe, fGt, fGe, fIs, fIsNot, fIx, fSl, fSlL, fLen, fList, fTuple, fMax2, fMin2, fMax, fMin, fAbs, fInt, fIsi, fIsiN, fIsiC, gN, gT, gT0, gTC, diSeq, diRng1, diRng2, diEnum, dstart, De.off, exD, suiteD, List.map_cons, List.map_nil, List.length_cons, List.length_nil, Nat.reduceAdd, Nat.reduceSub, List.replicate_succ, List.replicate_zero, List.getElem?_cons_zero, List.getElem?_cons_succ, List.set_cons_zero, List.set_cons_succ, Option.some.injEq, exists_eq_left', exists_eq_left, exists_and_left, D.int.injEq, D.bl.injEq, D.lst.injEq, D.tup.injEq, D.str.injEq, D.exc.injEq, List.cons.injEq, and_true, true_and, List.nil_append, List.cons_append, List.append_nil, reduceCtorEq, false_and, exists_false, or_false, false_or, or_true, true_or, and_false, Int.reduceNeg, decide_eq_true_eq, Bool.not_eq_true', decide_eq_false_iff_not, and_assoc, Nat.zero_le, List.length_map, Int.zero_add, Int.reduceLT, Int.reduceLE, Int.reducePow, Int.reduceToNat, Int.reduceAdd, Int.reduceMul, Int.reduceSub, Nat.reduceLeDiff, fEq_ints, fNe_ints, fEq_lstsI, fNe_lstsI, fEq_tupsI, fNe_tupsI, noLA_ints, fSum_lst, fSum_tup, fSorted_lst, fSorted_tup, ↓reduceIte, Bool.false_eq_true, Bool.true_eq_false, false_implies, true_implies, implies_true, forall_const, Bool.not_true, Bool.not_false]
  refine ⟨_, at_ m (Nat.le_refl _), ?_⟩
  subst eR
  refine sq_cut fun R eR => ?_
  refine for_i (rangeD 0 m) (fun k δ => ∃ (r : List Int) (v1 v2 : Option D), δ = [some (.lst (rows.map tupI)), some (.int m), some (.int p), some (tupI r), v1, v2] ∧ (r = B m ∨ ∃ j, j < m ∧ r = B j ++ List.replicate (m - j) (nxt p (B j).sum)) ∧ (B m).sum ≤ r.sum ∧ ∀ j, j < k → (B j).sum + nxt p (B j).sum * ((m - j : Nat) : Int) ≤ r.sum)
    (fun Q q => by simp only [fLenSet, fMul3, dTr, tru, dAsgT, gS, dMake2, dCBK, fMinD, dCallG, fRepr, fEqS, dSq, dAsg, dNx, dExp, dRet, dRetN, dIfS, dBk, dCt, dAppend, dInsert, dRemove, dPopAt, dSetAt, dRaise, dRaise0, dRaiseL, dVar, dC, dOp, dT, dChain, dNotT, dAndT, dOrT, dAndV, dOrV, dNotV, dIf, dNeg, dNil, dCons, dCB, dTup, dLst, dCall, dCallV, dCallF, dFld, dNoPart, dPart, dSl, dIsSeq, dBM, dTM, dXf, dYes, fSub, fDiv, fMod, fPow, fAdd, fCat, fMul, fRep, fLt, fLe, fGt, fGe, fIs, fIsNot, fIx, fSl, fSlL, fLen, fList, fTuple, fMax2, fMin2, fMax, fMin, fAbs, fInt, fIsi, fIsiN, fIsiC, gN, gT, gT0, gTC, diSeq, diRng1, diRng2, diEnum, dstart, De.off, exD, suiteD, List.map_cons, List.map_nil, List.length_cons, List.length_nil, Nat.reduceAdd, Nat.reduceSub, List.replicate_succ, List.replicate_zero, List.getElem?_cons_zero, List.getElem?_cons_succ, List.set_cons_zero, List.set_cons_succ, Option.some.injEq, exists_eq_left', exists_eq_left, exists_and_left, D.int.injEq, D.bl.injEq, D.lst.injEq, D.tup.injEq, D.str.injEq, D.exc.injEq, List.cons.injEq, and_true, true_and, List.nil_append, List.cons_append, List.append_nil, reduceCtorEq, false_and, exists_false, or_false, false_or, or_true, true_or, and_false, Int.reduceNeg, decide_eq_true_eq, Bool.not_eq_true', decide_eq_false_iff_not, and_assoc, Nat.zero_le, List.length_map, Int.zero_add, Int.reduceLT, Int.reduceLE, Int.reducePow, Int.reduceToNat, Int.reduceAdd, Int.reduceMul, Int.reduceSub, Nat.reduceLeDiff, fEq_ints, fNe_ints, fEq_lstsI, fNe_lstsI, fEq_tupsI, fNe_tupsI, noLA_ints, fSum_lst, fSum_tup, fSorted_lst, fSorted_tup, ↓reduceIte, Bool.false_eq_true, Bool.true_eq_false, false_implies, true_implies, implies_true, forall_const, Bool.not_true, Bool.not_false]; exact ⟨by omega, by omega, q⟩) ⟨B m, _, _, rfl, .inl rfl, Int.le_refl _, fun j z => absurd z (Nat.not_lt_zero j)⟩ ?_ ?_
  · rintro k δ' x N hN ⟨r, v1, v2, rfl, hr, h0, h1⟩ hx
    rw [rangeD_get] at hx
    split at hx <;> cases hx
    rename_i hk
    have ak := at_ k (by omega)
    have bl := (hb k (by omega)).1.len
    simp only [gN, gT, gT0, gTC, wipeD, D.tup.injEq, D.lst.injEq, List.length_cons, List.length_nil, Nat.reduceAdd, List.cons.injEq, exists_eq_left', exists_eq_left, exists_and_left, and_true, true_and, and_assoc, List.set_cons_zero, List.set_cons_succ, reduceCtorEq, Int.zero_add]
    refine sq_cut fun R2 eR2 => ?_
    simp only [fLenSet, fMul3, dTr, tru, dAsgT, gS, dMake2, dCBK, fMinD, dCallG, fRepr, fEqS, dSq, dAsg, dNx, dExp, dRet, dRetN, dIfS, dBk, dCt, dAppend, dInsert, dRemove, dPopAt, dSetAt, dRaise, dRaise0, dRaiseL, dVar, dC, dOp, dT, dChain, dNotT, dAndT, dOrT, dAndV, dOrV, dNotV, dIf, dNeg, dNil, dCons, dCB, dTup, dLst, dCall, dCallV, dCallF, dFld, dNoPart, dPart, dSl, dIsSeq, dBM, dTM, dXf, dYes, fSub, fDiv, fMod, fPow, fAdd, fCat, fMul, fRep, fLt, fLe, fGt, fGe, fIs, fIsNot, fIx, fSl, fSlL, fLen, fList, fTuple, fMax2, fMin2, fMax, fMin, fAbs, fInt, fIsi, fIsiN, fIsiC, gN, gT, gT0, gTC, diSeq, diRng1, diRng2, diEnum, dstart, De.off, exD, suiteD, List.map_cons, List.map_nil, List.length_cons, List.length_nil, Nat.reduceAdd, Nat.reduceSub, List.replicate_succ, List.replicate_zero, List.getElem?_cons_zero, List.getElem?_cons_succ, List.set_cons_zero, List.set_cons_succ, Option.some.injEq, exists_eq_left', exists_eq_left, exists_and_left, D.int.injEq, D.bl.injEq, D.lst.injEq, D.tup.injEq, D.str.injEq, D.exc.injEq, List.cons.injEq, and_true, true_and, List.nil_append, List.cons_append, List.append_nil, reduceCtorEq, false_and, exists_false, or_false, false_or, or_true, true_or, and_false, Int.reduceNeg, decide_eq_true_eq, Bool.not_eq_true', decide_eq_false_iff_not, and_assoc, Nat.zero_le, List.length_map, Int.zero_add, Int.reduceLT, Int.reduceLE, Int.reducePow, Int.reduceToNat, Int.reduceAdd, Int.reduceMul, Int.reduceSub, Nat.reduceLeDiff, fEq_ints, fNe_ints, fEq_lstsI, fNe_lstsI, fEq_tupsI, fNe_tupsI, noLA_ints, fSum_lst, fSum_tup, fSorted_lst, fSorted_tup, ↓reduceIte, Bool.false_eq_true, Bool.true_eq_false, false_implies, true_implies, implies_true, forall_const, Bool.not_true, Bool.not_false]
    refine ⟨_, ak, ?_⟩
    simp only [fLenSet, fMul3, dTr, tru, dAsgT, gS, dMake2, dCBK, fMinD, dCallG, fRepr, fEqS, dSq, dAsg, dNx, dExp, dRet, dRetN, dIfS, dBk, dCt, dAppend, dInsert, dRemove, dPopAt, dSetAt, dRaise, dRaise0, dRaiseL, dVar, dC, dOp, dT, dChain, dNotT, dAndT, dOrT, dAndV, dOrV, dNotV, dIf, dNeg, dNil, dCons, dCB, dTup, dLst, dCall, dCallV, dCallF, dFld, dNoPart, dPart, dSl, dIsSeq, dBM, dTM, dXf, dYes, fSub, fDiv, fMod, fPow, fAdd, fCat, fMul, fRep, fLt, fLe, fGt, fGe, fIs, fIsNot, fIx, fSl, fSlL, fLen, fList, fTuple, fMax2, fMin2, fMax, fMin, fAbs, fInt, fIsi, fIsiN, fIsiC, gN, gT, gT0, gTC, diSeq, diRng1, diRng2, diEnum, dstart, De.off, exD, suiteD, List.map_cons, List.map_nil, List.length_cons, List.length_nil, Nat.reduceAdd, Nat.reduceSub, List.replicate_succ, List.replicate_zero, List.getElem?_cons_zero, List.getElem?_cons_succ, List.set_cons_zero, List.set_cons_succ, Option.some.injEq, exists_eq_left', exists_eq_left, exists_and_left, D.int.injEq, D.bl.injEq, D.lst.injEq, D.tup.injEq, D.str.injEq, D.exc.injEq, List.cons.injEq, and_true, true_and, List.nil_append, List.cons_append, List.append_nil, reduceCtorEq, false_and, exists_false, or_false, false_or, or_true, true_or, and_false, Int.reduceNeg, decide_eq_true_eq, Bool.not_eq_true', decide_eq_false_iff_not, and_assoc, Nat.zero_le, List.length_map, Int.zero_add, Int.reduceLT, Int.reduceLE, Int.reducePow, Int.reduceToNat, Int.reduceAdd, Int.reduceMul, Int.reduceSub, Nat.reduceLeDiff, fEq_ints, fNe_ints, fEq_lstsI, fNe_lstsI, fEq_tupsI, fNe_tupsI, noLA_ints, fSum_lst, fSum_tup, fSorted_lst, fSorted_tup, ↓reduceIte, Bool.false_eq_true, Bool.true_eq_false, false_implies, true_implies, implies_true, forall_const, Bool.not_true, Bool.not_false, s_d_room_at]
    refine ⟨p0, by omega, ?_⟩
    subst eR2
    simp only [fLenSet, fMul3, dTr, tru, dAsgT, gS, dMake2, dCBK, fMinD, dCallG, fRepr, fEqS, dSq, dAsg, dNx, dExp, dRet, dRetN, dIfS, dBk, dCt, dAppend, dInsert, dRemove, dPopAt, dSetAt, dRaise, dRaise0, dRaiseL, dVar, dC, dOp, dT, dChain, dNotT, dAndT, dOrT, dAndV, dOrV, dNotV, dIf, dNeg, dNil, dCons, dCB, dTup, dLst, dCall, dCallV, dCallF, dFld, dNoPart, dPart, dSl, dIsSeq, dBM, dTM, dXf, dYes, fSub, fDiv, fMod, fPow, fAdd, fCat, fMul, fRep, fLt, fLe, fGt, fGe, fIs, fIsNot, fIx, fSl, fSlL, fLen, fList, fTuple, fMax2, fMin2, fMax, fMin, fAbs, fInt, fIsi, fIsiN, fIsiC, gN, gT, gT0, gTC, diSeq, diRng1, diRng2, diEnum, dstart, De.off, exD, suiteD, List.map_cons, List.map_nil, List.length_cons, List.length_nil, Nat.reduceAdd, Nat.reduceSub, List.replicate_succ, List.replicate_zero, List.getElem?_cons_zero, List.getElem?_cons_succ, List.set_cons_zero, List.set_cons_succ, Option.some.injEq, exists_eq_left', exists_eq_left, exists_and_left, D.int.injEq, D.bl.injEq, D.lst.injEq, D.tup.injEq, D.str.injEq, D.exc.injEq, List.cons.injEq, and_true, true_and, List.nil_append, List.cons_append, List.append_nil, reduceCtorEq, false_and, exists_false, or_false, false_or, or_true, true_or, and_false, Int.reduceNeg, decide_eq_true_eq, Bool.not_eq_true', decide_eq_false_iff_not, and_assoc, Nat.zero_le, List.length_map, Int.zero_add, Int.reduceLT, Int.reduceLE, Int.reducePow, Int.reduceToNat, Int.reduceAdd, Int.reduceMul, Int.reduceSub, Nat.reduceLeDiff, fEq_ints, fNe_ints, fEq_lstsI, fNe_lstsI, fEq_tupsI, fNe_tupsI, noLA_ints, fSum_lst, fSum_tup, fSorted_lst, fSorted_tup, ↓reduceIte, Bool.false_eq_true, Bool.true_eq_false, false_implies, true_implies, implies_true, forall_const, Bool.not_true, Bool.not_false]
    refine ⟨_, ak, ?_⟩
    simp only [fLenSet, fMul3, dTr, tru, dAsgT, gS, dMake2, dCBK, fMinD, dCallG, fRepr, fEqS, dSq, dAsg, dNx, dExp, dRet, dRetN, dIfS, dBk, dCt, dAppend, dInsert, dRemove, dPopAt, dSetAt, dRaise, dRaise0, dRaiseL, dVar, dC, dOp, dT, dChain, dNotT, dAndT, dOrT, dAndV, dOrV, dNotV, dIf, dNeg, dNil, dCons, dCB, dTup, dLst, dCall, dCallV, dCallF, dFld, dNoPart, dPart, dSl, dIsSeq, dBM, dTM, dXf, dYes, fSub, fDiv, fMod, fPow, fAdd, fCat, fMul, fRep, fLt, fLe, fGt, fGe, fIs, fIsNot, fIx, fSl, fSlL, fLen, fList, fTuple, fMax2, fMin2, fMax, fMin, fAbs, fInt, fIsi, fIsiN, fIsiC, gN, gT, gT0, gTC, diSeq, diRng1, diRng2, diEnum, dstart, De.off, exD, suiteD, List.map_cons, List.map_nil, List.length_cons, List.length_nil, Nat.reduceAdd, Nat.reduceSub, List.replicate_succ, List.replicate_zero, List.getElem?_cons_zero, List.getElem?_cons_succ, List.set_cons_zero, List.set_cons_succ, Option.some.injEq, exists_eq_left', exists_eq_left, exists_and_left, D.int.injEq, D.bl.injEq, D.lst.injEq, D.tup.injEq, D.str.injEq, D.exc.injEq, List.cons.injEq, and_true, true_and, List.nil_append, List.cons_append, List.append_nil, reduceCtorEq, false_and, exists_false, or_false, false_or, or_true, true_or, and_false, Int.reduceNeg, decide_eq_true_eq, Bool.not_eq_true', decide_eq_false_iff_not, and_assoc, Nat.zero_le, List.length_map, Int.zero_add, Int.reduceLT, Int.reduceLE, Int.reducePow, Int.reduceToNat, Int.reduceAdd, Int.reduceMul, Int.reduceSub, Nat.reduceLeDiff, fEq_ints, fNe_ints, fEq_lstsI, fNe_lstsI, fEq_tupsI, fNe_tupsI, noLA_ints, fSum_lst, fSum_tup, fSorted_lst, fSorted_tup, ↓reduceIte, Bool.false_eq_true, Bool.true_eq_false, false_implies, true_implies, implies_true, forall_const, Bool.not_true, Bool.not_false]
    have ei : (m : Int) - k = ((m - k : Nat) : Int) := by omega
    rw [ei]
    refine ⟨.inr ⟨by omega, by omega⟩, ?_⟩
    split
    · rename_i hlt
      refine ⟨_, ak, by omega, by simp, by omega, by omega, ?_⟩
      rw [Int.toNat_natCast, rep_int]
      simp only [fLenSet, fMul3, dTr, tru, dAsgT, gS, dMake2, dCBK, fMinD, dCallG, fRepr, fEqS, dSq, dAsg, dNx, dExp, dRet, dRetN, dIfS, dBk, dCt, dAppend, dInsert, dRemove, dPopAt, dSetAt, dRaise, dRaise0, dRaiseL, dVar, dC, dOp, dT, dChain, dNotT, dAndT, dOrT, dAndV, dOrV, dNotV, dIf, dNeg, dNil, dCons, dCB, dTup, dLst, dCall, dCallV, dCallF, dFld, dNoPart, dPart, dSl, dIsSeq, dBM, dTM, dXf, dYes, fSub, fDiv, fMod, fPow, fAdd, fCat, fMul, fRep, fLt, fLe, fGt, fGe, fIs, fIsNot, fIx, fSl, fSlL, fLen, fList, fTuple, fMax2, fMin2, fMax, fMin, fAbs, fInt, fIsi, fIsiN, fIsiC, gN, gT, gT0, gTC, diSeq, diRng1, diRng2, diEnum, dstart, De.off, exD, suiteD, List.map_cons, List.map_nil, List.length_cons, List.length_nil, Nat.reduceAdd, Nat.reduceSub, List.replicate_succ, List.replicate_zero, List.getElem?_cons_zero, List.getElem?_cons_succ, List.set_cons_zero, List.set_cons_succ, Option.some.injEq, exists_eq_left', exists_eq_left, exists_and_left, D.int.injEq, D.bl.injEq, D.lst.injEq, D.tup.injEq, D.str.injEq, D.exc.injEq, List.cons.injEq, and_true, true_and, List.nil_append, List.cons_append, List.append_nil, reduceCtorEq, false_and, exists_false, or_false, false_or, or_true, true_or, and_false, Int.reduceNeg, decide_eq_true_eq, Bool.not_eq_true', decide_eq_false_iff_not, and_assoc, Nat.zero_le, List.length_map, Int.zero_add, Int.reduceLT, Int.reduceLE, Int.reducePow, Int.reduceToNat, Int.reduceAdd, Int.reduceMul, Int.reduceSub, Nat.reduceLeDiff, fEq_ints, fNe_ints, fEq_lstsI, fNe_lstsI, fEq_tupsI, fNe_tupsI, noLA_ints, fSum_lst, fSum_tup, fSorted_lst, fSorted_tup, ↓reduceIte, Bool.false_eq_true, Bool.true_eq_false, false_implies, true_implies, implies_true, forall_const, Bool.not_true, Bool.not_false]
      refine ⟨?_, hN _ ⟨B k ++ List.replicate (m - k) (nxt p (B k).sum), _, _, by rw [tupI, List.map_append], .inr ⟨k, hk, rfl⟩, ?_, fun j hj => ?_⟩⟩
      · rw [bl, List.length_replicate]
        omega
      · rw [List.sum_append, sum_rep]
        omega
      · rw [List.sum_append, sum_rep]
        by_cases e : j = k
        · subst e; omega
        · have := h1 j (by omega)
          omega
    · rename_i hlt
      refine hN _ ⟨r, _, _, rfl, hr, h0, fun j hj => ?_⟩
      by_cases e : j = k
      · subst e; omega
      · exact h1 j (by omega)
  · rintro δ' ⟨r, v1, v2, rfl, hr, h0, h1⟩
    rw [rangeD_length] at h1
    subst eR
    simp only [fLenSet, fMul3, dTr, tru, dAsgT, gS, dMake2, dCBK, fMinD, dCallG, fRepr, fEqS, dSq, dAsg, dNx, dExp, dRet, dRetN, dIfS, dBk, dCt, dAppend, dInsert, dRemove, dPopAt, dSetAt, dRaise, dRaise0, dRaiseL, dVar, dC, dOp, dT, dChain, dNotT, dAndT, dOrT, dAndV, dOrV, dNotV, dIf, dNeg, dNil, dCons, dCB, dTup, dLst, dCall, dCallV, dCallF, dFld, dNoPart, dPart, dSl, dIsSeq, dBM, dTM, dXf, dYes, fSub, fDiv, fMod, fPow, fAdd, fCat, fMul, fRep, fLt, fLe, fGt, fGe, fIs, fIsNot, fIx, fSl, fSlL, fLen, fList, fTuple, fMax2, fMin2, fMax, fMin, fAbs, fInt, fIsi, fIsiN, fIsiC, gN, gT, gT0, gTC, diSeq, diRng1, diRng2, diEnum, dstart, De.off, exD, suiteD, List.map_cons, List.map_nil, List.length_cons, List.length_nil, Nat.reduceAdd, Nat.reduceSub, List.replicate_succ, List.replicate_zero, List.getElem?_cons_zero, List.getElem?_cons_succ, List.set_cons_zero, List.set_cons_succ, Option.some.injEq, exists_eq_left', exists_eq_left, exists_and_left, D.int.injEq, D.bl.injEq, D.lst.injEq, D.tup.injEq, D.str.injEq, D.exc.injEq, List.cons.injEq, and_true, true_and, List.nil_append, List.cons_append, List.append_nil, reduceCtorEq, false_and, exists_false, or_false, false_or, or_true, true_or, and_false, Int.reduceNeg, decide_eq_true_eq, Bool.not_eq_true', decide_eq_false_iff_not, and_assoc, Nat.zero_le, List.length_map, Int.zero_add, Int.reduceLT, Int.reduceLE, Int.reducePow, Int.reduceToNat, Int.reduceAdd, Int.reduceMul, Int.reduceSub, Nat.reduceLeDiff, fEq_ints, fNe_ints, fEq_lstsI, fNe_lstsI, fEq_tupsI, fNe_tupsI, noLA_ints, fSum_lst, fSum_tup, fSorted_lst, fSorted_tup, ↓reduceIte, Bool.false_eq_true, Bool.true_eq_false, false_implies, true_implies, implies_true, forall_const, Bool.not_true, Bool.not_false]
    exact q r (best_up p0 (fun j hj => (hb j hj).1) hr h0 h1)
def s_d_greatest_unlike (cU cC cP : Addr) : SpD := fun ds P er => ∃ x y z : D, ds = [x, y, z] ∧ kn x = true ∧ kn y = true ∧ kn z = true ∧ (whole x 0 12 = false → er cC (mostE 12)) ∧ ∀ n : Nat, x = .int n → n ≤ 12 → (whole y 1 12 = false → er cU none) ∧ ∀ u : Nat, y = .int u → 1 ≤ u → u ≤ 12 → (whole z 2 5 = false → er cP none) ∧ ∀ p, z = .int p → 2 ≤ p → p ≤ 5 → ∀ r, Best p u n r → P (.tup [.int r.sum, tupI r])
theorem len_d_greatest_unlike {a b c : Addr} : ∀ ds P er, s_d_greatest_unlike a b c ds P er → ds.length = 3 := by rintro _ _ _ ⟨_, _, _, rfl, _⟩; rfl
theorem ok_greatest_unlike {f : Addr} {fd : FuncData} (F : Fun K "greatest_unlike" "greatest_unlike" s_greatest_unlike f fd) (T : Txt K mg cBadPeople cBadCount cBadTotal cBadCoin cBadUnlike) : FnOk P w K mg base (L2.CX P w) 4 f fd ps_greatest_unlike (spOf (s_d_greatest_unlike cBadUnlike cBadCount cBadPeople)) := by
  obtain ⟨f_check_count, fd_check_count, F_check_count, m_check_count, b_check_count⟩ := T.d_check_count
  have G_check_count : FnOk P w K mg base (L2.CX P w) 3 f_check_count fd_check_count ps_check_count (spOf (s_d_check_count cBadCount)) := ok_check_count F_check_count T
  obtain ⟨f_check_people, fd_check_people, F_check_people, m_check_people, b_check_people, ds_check_people, d_check_people_1, b_check_people_1⟩ := T.d_check_people
  have G_check_people : FnOk P w K mg base (L2.CX P w) 3 f_check_people fd_check_people ps_check_people (spOf (s_d_check_people cBadPeople)) := ok_check_people F_check_people T
  obtain ⟨f_is_whole, fd_is_whole, F_is_whole, m_is_whole, b_is_whole⟩ := T.d_is_whole
  have G_is_whole : FnOk P w K mg base CX0 2 f_is_whole fd_is_whole ps_is_whole (spOf (s_d_is_whole)) := ok_is_whole F_is_whole T
  obtain ⟨f_greatest_grown, fd_greatest_grown, F_greatest_grown, m_greatest_grown, b_greatest_grown⟩ := T.d_greatest_grown
  have G_greatest_grown : FnOk P w K mg base CX0 2 f_greatest_grown fd_greatest_grown ps_greatest_grown (spOf (s_d_greatest_grown)) := ok_greatest_grown F_greatest_grown T
  obtain ⟨u_MOST_COINS, c_MOST_COINS, r_MOST_COINS⟩ := T.c_MOST_COINS
  obtain ⟨u_LEAST_PEOPLE, c_LEAST_PEOPLE, r_LEAST_PEOPLE⟩ := T.c_LEAST_PEOPLE
  refine fn_d (k := 3) (Oe := []) F sc_greatest_unlike [3] _ (len_d_greatest_unlike) (by decide) (fun cdv A outer sh H E hr => (s_cons (s_exp (d_call (by decide) G_check_count (hr.mono (by decide)) (by rfl) m_check_count F_check_count.kp b_check_count .nil (fun _ _ _ => .nil) (fun σ => L2.passAt (L2.takes_of rfl rfl rfl rfl) σ) (a_cons (d_var (i := 0) (by decide) (pv 0)) (a_cons (d_c (y := .int 12) (fun _ _ _ => .int _) (pe_glob rfl c_MOST_COINS r_MOST_COINS)) a_nil))))
      (s_cons (s_if (d_not (d_test (d_call (by decide) G_is_whole (hr.mono (by decide)) (by rfl) m_is_whole F_is_whole.kp b_is_whole .nil (fun _ _ _ => .nil) pass0A (a_cons (d_var (i := 1) (by decide) (pv 1)) (a_cons (d_c (y := .int 1) (fun _ _ _ => .int _) pe_int) (a_cons (d_c (y := .int 12) (fun _ _ _ => .int _) (pe_glob rfl c_MOST_COINS r_MOST_COINS)) a_nil)))))) (s_one (s_raise0 (by decide) rfl (L2.takes_of rfl rfl rfl rfl) (T.y_BadUnlike.made (by rfl))) (fun _ z => z)) (s_nil (fun _ z => z)))
      (s_cons (s_exp (d_call (by decide) G_check_people (hr.mono (by decide)) (by rfl) m_check_people F_check_people.kp b_check_people .nil (fun _ _ _ => .nil) (fun σ => L2.passAt (L2.takes_of rfl rfl rfl rfl) σ) (a_cons (d_var (i := 2) (by decide) (pv 2)) (a_cons (d_c (y := .int 2) (fun _ _ _ => .int _) (pe_glob rfl c_LEAST_PEOPLE r_LEAST_PEOPLE)) a_nil))))
      (s_cons (s_setF (i := 3) (by decide) sc_greatest_unlike.nd rfl (Or.inr rfl) (f_lst (a_cons (d_tup a_nil) a_nil)))
      (s_cons (s_for (vs := [4]) (passes_of rfl) rfl (by decide) (pi_range2 (by rfl) T.n_range (pa_cons (d_c (y := .int 1) (fun _ _ _ => .int _) pe_int) (pa_cons (d_op op_add4 l_add (toV (d_var (i := 0) (by decide) (pv 0))) (toV (d_c (y := .int 1) (fun _ _ _ => .int _) pe_int))) pa_nil))) (li_rng2 (own := false)) (pg_name (i := 4) sc_greatest_unlike.nd rfl (Or.inl rfl)) (lg_name (i := 4) (by decide) (by decide))
      (s_one (s_append (i := 3) (by decide) (pv 3) (d_op op_mul3 l_mul3 (toV (d_tup (a_cons (d_c (y := .int 1) (fun _ _ _ => .int _) pe_int) a_nil))) (toV (d_var (i := 4) (by decide) (pv 4))))) (fun _ z => z)))
      (s_less (O2 := []) (by decide)
      (s_cons (s_for (vs := [5]) (passes_of rfl) rfl (by decide) (pi_range1 (by rfl) T.n_range (pa_cons (d_op op_sub l_sub (toV (d_var (i := 1) (by decide) (pv 1))) (toV (d_c (y := .int 1) (fun _ _ _ => .int _) pe_int))) pa_nil)) (li_rng1 (own := false)) (pg_name (i := 5) sc_greatest_unlike.nd rfl (Or.inl rfl)) (lg_name (i := 5) (by decide) (by decide))
      (s_one (s_set (i := 3) (by decide) sc_greatest_unlike.nd rfl (Or.inr rfl) (ofF (f_lc (ownv := [("many", 4)]) rfl sc_greatest_unlike.nd (by decide) (pi_range1 (by rfl) T.n_range (pa_cons (d_op op_add4 l_add (toV (d_var (i := 0) (by decide) (pv 0))) (toV (d_c (y := .int 1) (fun _ _ _ => .int _) pe_int))) pa_nil)) (li_rng1 (own := false)) (blkOk_by (N := nm_greatest_unlike) (sc := defScope s_greatest_unlike) (by decide +kernel)) (lg_name (i := 4) (by decide) (by decide)) (fun _ _ _ _ _ => (pg_name (i := 4) sc_greatest_unlike.nd rfl (Or.inl rfl))) (fun _ _ _ _ _ => ts_nil) (fun _ _ _ _ _ => (d_call (by decide) G_greatest_grown (hr.mono (by decide)) (by rfl) m_greatest_grown F_greatest_grown.kp b_greatest_grown .nil (fun _ _ _ => .nil) pass0A (a_cons (d_var (i := 3) (by decide) (pv 3)) (a_cons (d_var (i := 4) (by decide) (pv 4)) (a_cons (d_var (i := 2) (by decide) (pv 2)) a_nil)))))))) (fun _ z => z)))
      (s_one (s_ret (O2 := []) (fun _ z => nomatch z) (d_tup (a_cons (d_callB (cr_sumE rfl) c_sum (by rfl) T.n_sum (by decide +kernel) (v_cons (toV (d_ix ix_seq l_ix (toV (d_var (i := 3) (by decide) (pv 3))) (toV (d_var (i := 0) (by decide) (pv 0))) (fun _ _ => rfl))) v_nil)) (a_cons (d_ix ix_seq l_ix (toV (d_var (i := 3) (by decide) (pv 3))) (toV (d_var (i := 0) (by decide) (pv 0))) (fun _ _ => rfl)) a_nil)))) (by decide)))))))))) ?_
  rintro ds P er ⟨x, y, z, rfl, hx, hy, hz, qe, q⟩
  have small : (1000 : Nat) < sizeLine := by decide
  refine sq_cut fun R eR => ?_
  simp only [fLenSet, fMul3, dTr, tru, dAsgT, gS, dMake2, dCBK, fMinD, dCallG, fRepr, fEqS, dSq, dAsg, dNx, dExp, dRet, dRetN, dIfS, dBk, dCt, dAppend, dInsert, dRemove, dPopAt, dSetAt, dRaise, dRaise0, dRaiseL, dVar, dC, dOp, dT, dChain, dNotT, dAndT, dOrT, dAndV, dOrV, dNotV, dIf, dNeg, dNil, dCons, dCB, dTup, dLst, dCall, dCallV, dCallF, dFld, dNoPart, dPart, dSl, dIsSeq, dBM, dTM, dXf, dYes, fSub, fDiv, fMod, fPow, fAdd, fCat, fMul, fRep, fLt, fLe, fGt, fGe, fIs, fIsNot, fIx, fSl, fSlL, fLen, fList, fTuple, fMax2, fMin2, fMax, fMin, fAbs, fInt, fIsi, fIsiN, fIsiC, gN, gT, gT0, gTC, diSeq, diRng1, diRng2, diEnum, dstart, De.off, exD, suiteD, List.map_cons, List.map_nil, List.length_cons, List.length_nil, Nat.reduceAdd, Nat.reduceSub, List.replicate_succ, List.replicate_zero, List.getElem?_cons_zero, List.getElem?_cons_succ, List.set_cons_zero, List.set_cons_succ, Option.some.injEq, exists_eq_left', exists_eq_left, exists_and_left, D.int.injEq, D.bl.injEq, D.lst.injEq, D.tup.injEq, D.str.injEq, D.exc.injEq, List.cons.injEq, and_true, true_and, List.nil_append, List.cons_append, List.append_nil, reduceCtorEq, false_and, exists_false, or_false, false_or, or_true, true_or, and_false, Int.reduceNeg, decide_eq_true_eq, Bool.not_eq_true', decide_eq_false_iff_not, and_assoc, Nat.zero_le, List.length_map, Int.zero_add, Int.reduceLT, Int.reduceLE, Int.reducePow, Int.reduceToNat, Int.reduceAdd, Int.reduceMul, Int.reduceSub, Nat.reduceLeDiff, fEq_ints, fNe_ints, fEq_lstsI, fNe_lstsI, fEq_tupsI, fNe_tupsI, noLA_ints, fSum_lst, fSum_tup, fSorted_lst, fSorted_tup, ↓reduceIte, Bool.false_eq_true, Bool.true_eq_false, false_implies, true_implies, implies_true, forall_const, Bool.not_true, Bool.not_false, s_d_check_count]
  refine ⟨hx, fun hw => ?_, qe⟩
  obtain ⟨n0, rfl, n00, n12⟩ := whole_int hw
  obtain ⟨n, rfl⟩ := Int.eq_ofNat_of_zero_le n00
  obtain ⟨q1, q2⟩ := q n rfl (by omega)
  subst eR
  refine sq_cut fun R eR => ?_
  simp only [fLenSet, fMul3, dTr, tru, dAsgT, gS, dMake2, dCBK, fMinD, dCallG, fRepr, fEqS, dSq, dAsg, dNx, dExp, dRet, dRetN, dIfS, dBk, dCt, dAppend, dInsert, dRemove, dPopAt, dSetAt, dRaise, dRaise0, dRaiseL, dVar, dC, dOp, dT, dChain, dNotT, dAndT, dOrT, dAndV, dOrV, dNotV, dIf, dNeg, dNil, dCons, dCB, dTup, dLst, dCall, dCallV, dCallF, dFld, dNoPart, dPart, dSl, dIsSeq, dBM, dTM, dXf, dYes, fSub, fDiv, fMod, fPow, fAdd, fCat, fMul, fRep, fLt, fLe, fGt, fGe, fIs, fIsNot, fIx, fSl, fSlL, fLen, fList, fTuple, fMax2, fMin2, fMax, fMin, fAbs, fInt, fIsi, fIsiN, fIsiC, gN, gT, gT0, gTC, diSeq, diRng1, diRng2, diEnum, dstart, De.off, exD, suiteD, List.map_cons, List.map_nil, List.length_cons, List.length_nil, Nat.reduceAdd, Nat.reduceSub, List.replicate_succ, List.replicate_zero, List.getElem?_cons_zero, List.getElem?_cons_succ, List.set_cons_zero, List.set_cons_succ, Option.some.injEq, exists_eq_left', exists_eq_left, exists_and_left, D.int.injEq, D.bl.injEq, D.lst.injEq, D.tup.injEq, D.str.injEq, D.exc.injEq, List.cons.injEq, and_true, true_and, List.nil_append, List.cons_append, List.append_nil, reduceCtorEq, false_and, exists_false, or_false, false_or, or_true, true_or, and_false, Int.reduceNeg, decide_eq_true_eq, Bool.not_eq_true', decide_eq_false_iff_not, and_assoc, Nat.zero_le, List.length_map, Int.zero_add, Int.reduceLT, Int.reduceLE, Int.reducePow, Int.reduceToNat, Int.reduceAdd, Int.reduceMul, Int.reduceSub, Nat.reduceLeDiff, fEq_ints, fNe_ints, fEq_lstsI, fNe_lstsI, fEq_tupsI, fNe_tupsI, noLA_ints, fSum_lst, fSum_tup, fSorted_lst, fSorted_tup, ↓reduceIte, Bool.false_eq_true, Bool.true_eq_false, false_implies, true_implies, implies_true, forall_const, Bool.not_true, Bool.not_false, s_d_is_whole]
  refine ⟨hy, ?_⟩
  cases hwu : whole y 1 12 with
  | false =>
    rw [if_pos rfl]
    exact q1 hwu
  | true =>
    rw [if_neg (by decide)]
    obtain ⟨u0, rfl, u1, u12⟩ := whole_int hwu
    obtain ⟨u, rfl⟩ := Int.eq_ofNat_of_zero_le (show 0 ≤ u0 by omega)
    obtain ⟨q3, q4⟩ := q2 u rfl (by omega) (by omega)
    subst eR
    refine sq_cut fun R eR => ?_
    simp only [fLenSet, fMul3, dTr, tru, dAsgT, gS, dMake2, dCBK, fMinD, dCallG, fRepr, fEqS, dSq, dAsg, dNx, dExp, dRet, dRetN, dIfS, dBk, dCt, dAppend, dInsert, dRemove, dPopAt, dSetAt, dRaise, dRaise0, dRaiseL, dVar, dC, dOp, dT, dChain, dNotT, dAndT, dOrT, dAndV, dOrV, dNotV, dIf, dNeg, dNil, dCons, dCB, dTup, dLst, dCall, dCallV, dCallF, dFld, dNoPart, dPart, dSl, dIsSeq, dBM, dTM, dXf, dYes, fSub, fDiv, fMod, fPow, fAdd, fCat, fMul, fRep, fLt, fLe, fGt, fGe, fIs, fIsNot, fIx, fSl, fSlL, fLen, fList, fTuple, fMax2, fMin2, fMax, fMin, fAbs, fInt, fIsi, fIsiN, fIsiC, gN, gT, gT0, gTC, diSeq, diRng1, diRng2, diEnum, dstart, De.off, exD, suiteD, List.map_cons, List.map_nil, List.length_cons, List.length_nil, Nat.reduceAdd, Nat.reduceSub, List.replicate_succ, List.replicate_zero, List.getElem?_cons_zero, List.getElem?_cons_succ, List.set_cons_zero, List.set_cons_succ, Option.some.injEq, exists_eq_left', exists_eq_left, exists_and_left, D.int.injEq, D.bl.injEq, D.lst.injEq, D.tup.injEq, D.str.injEq, D.exc.injEq, List.cons.injEq, and_true, true_and, List.nil_append, List.cons_append, List.append_nil, reduceCtorEq, false_and, exists_false, or_false, false_or, or_true, true_or, and_false, Int.reduceNeg, decide_eq_true_eq, Bool.not_eq_true', decide_eq_false_iff_not, and_assoc, Nat.zero_le, List.length_map, Int.zero_add, Int.reduceLT, Int.reduceLE, Int.reducePow, Int.reduceToNat, Int.reduceAdd, Int.reduceMul, Int.reduceSub, Nat.reduceLeDiff, fEq_ints, fNe_ints, fEq_lstsI, fNe_lstsI, fEq_tupsI, fNe_tupsI, noLA_ints, fSum_lst, fSum_tup, fSorted_lst, fSorted_tup, ↓reduceIte, Bool.false_eq_true, Bool.true_eq_false, false_implies, true_implies, implies_true, forall_const, Bool.not_true, Bool.not_false, s_d_check_people]
    refine ⟨hz, fun hw => ?_, q3⟩
    obtain ⟨p, rfl, p0, p1⟩ := whole_int hw
    have q5 := q4 p rfl p0 p1
    subst eR
    refine sq_cut fun R eR => ?_
    simp only [fLenSet, fMul3, dTr, tru, dAsgT, gS, dMake2, dCBK, fMinD, dCallG, fRepr, fEqS, dSq, dAsg, dNx, dExp, dRet, dRetN, dIfS, dBk, dCt, dAppend, dInsert, dRemove, dPopAt, dSetAt, dRaise, dRaise0, dRaiseL, dVar, dC, dOp, dT, dChain, dNotT, dAndT, dOrT, dAndV, dOrV, dNotV, dIf, dNeg, dNil, dCons, dCB, dTup, dLst, dCall, dCallV, dCallF, dFld, dNoPart, dPart, dSl, dIsSeq, dBM, dTM, dXf, dYes, fSub, fDiv, fMod, fPow, fAdd, fCat, fMul, fRep, fLt, fLe, fGt, fGe, fIs, fIsNot, fIx, fSl, fSlL, fLen, fList, fTuple, fMax2, fMin2, fMax, fMin, fAbs, fInt, fIsi, fIsiN, fIsiC, gN, gT, gT0, gTC, diSeq, diRng1, diRng2, diEnum, dstart, De.off, exD, suiteD, List.map_cons, List.map_nil, List.length_cons, List.length_nil, Nat.reduceAdd, Nat.reduceSub, List.replicate_succ, List.replicate_zero, List.getElem?_cons_zero, List.getElem?_cons_succ, List.set_cons_zero, List.set_cons_succ, Option.some.injEq, exists_eq_left', exists_eq_left, exists_and_left, D.int.injEq, D.bl.injEq, D.lst.injEq, D.tup.injEq, D.str.injEq, D.exc.injEq, List.cons.injEq, and_true, true_and, List.nil_append, List.cons_append, List.append_nil, reduceCtorEq, false_and, exists_false, or_false, false_or, or_true, true_or, and_false, Int.reduceNeg, decide_eq_true_eq, Bool.not_eq_true', decide_eq_false_iff_not, and_assoc, Nat.zero_le, List.length_map, Int.zero_add, Int.reduceLT, Int.reduceLE, Int.reducePow, Int.reduceToNat, Int.reduceAdd, Int.reduceMul, Int.reduceSub, Nat.reduceLeDiff, fEq_ints, fNe_ints, fEq_lstsI, fNe_lstsI, fEq_tupsI, fNe_tupsI, noLA_ints, fSum_lst, fSum_tup, fSorted_lst, fSorted_tup, ↓reduceIte, Bool.false_eq_true, Bool.true_eq_false, false_implies, true_implies, implies_true, forall_const, Bool.not_true, Bool.not_false]
    refine ⟨by omega, ?_⟩
    subst eR
    refine sq_cut fun R eR => ?_
    refine for_i (rangeD 1 n) (fun k δ => ∃ v1 v2 : Option D, δ = [some (.int n), some (.int u), some (.int p), some (.lst ((List.range (k + 1)).map fun j => tupI (List.replicate j 1))), v1, v2]) (fun Q q => by simp only [fLenSet, fMul3, dTr, tru, dAsgT, gS, dMake2, dCBK, fMinD, dCallG, fRepr, fEqS, dSq, dAsg, dNx, dExp, dRet, dRetN, dIfS, dBk, dCt, dAppend, dInsert, dRemove, dPopAt, dSetAt, dRaise, dRaise0, dRaiseL, dVar, dC, dOp, dT, dChain, dNotT, dAndT, dOrT, dAndV, dOrV, dNotV, dIf, dNeg, dNil, dCons, dCB, dTup, dLst, dCall, dCallV, dCallF, dFld, dNoPart, dPart, dSl, dIsSeq, dBM, dTM, dXf, dYes, fSub, fDiv, fMod, fPow, fAdd, fCat, fMul, fRep, fLt, fLe, fGt, fGe, fIs, fIsNot, fIx, fSl, fSlL, fLen, fList, fTuple, fMax2, fMin2, fMax, fMin, fAbs, fInt, fIsi, fIsiN, fIsiC, gN, gT, gT0, gTC, diSeq, diRng1, diRng2, diEnum, dstart, De.off, exD, suiteD, List.map_cons, List.map_nil, List.length_cons, List.length_nil, Nat.reduceAdd, Nat.reduceSub, List.replicate_succ, List.replicate_zero, List.getElem?_cons_zero, List.getElem?_cons_succ, List.set_cons_zero, List.set_cons_succ, Option.some.injEq, exists_eq_left', exists_eq_left, exists_and_left, D.int.injEq, D.bl.injEq, D.lst.injEq, D.tup.injEq, D.str.injEq, D.exc.injEq, List.cons.injEq, and_true, true_and, List.nil_append, List.cons_append, List.append_nil, reduceCtorEq, false_and, exists_false, or_false, false_or, or_true, true_or, and_false, Int.reduceNeg, decide_eq_true_eq, Bool.not_eq_true', decide_eq_false_iff_not, and_assoc, Nat.zero_le, List.length_map, Int.zero_add, Int.reduceLT, Int.reduceLE, Int.reducePow, Int.reduceToNat, Int.reduceAdd, Int.reduceMul, Int.reduceSub, Nat.reduceLeDiff, fEq_ints, fNe_ints, fEq_lstsI, fNe_lstsI, fEq_tupsI, fNe_tupsI, noLA_ints, fSum_lst, fSum_tup, fSorted_lst, fSorted_tup, ↓reduceIte, Bool.false_eq_true, Bool.true_eq_false, false_implies, true_implies, implies_true, forall_const, Bool.not_true, Bool.not_false]; exact ⟨by omega, by omega, by rw [show ((n : Int) + 1 - 1).toNat = n by omega]; exact q⟩) ⟨_, _, rfl⟩ ?_ ?_
    · rintro k δ' x N hN ⟨v1, v2, rfl⟩ hx
      rw [rangeD_get] at hx
      split at hx <;> cases hx
      rename_i hk
      simp only [fLenSet, fMul3, dTr, tru, dAsgT, gS, dMake2, dCBK, fMinD, dCallG, fRepr, fEqS, dSq, dAsg, dNx, dExp, dRet, dRetN, dIfS, dBk, dCt, dAppend, dInsert, dRemove, dPopAt, dSetAt, dRaise, dRaise0, dRaiseL, dVar, dC, dOp, dT, dChain, dNotT, dAndT, dOrT, dAndV, dOrV, dNotV, dIf, dNeg, dNil, dCons, dCB, dTup, dLst, dCall, dCallV, dCallF, dFld, dNoPart, dPart, dSl, dIsSeq, dBM, dTM, dXf, dYes, fSub, fDiv, fMod, fPow, fAdd, fCat, fMul, fRep, fLt, fLe, fGt, fGe, fIs, fIsNot, fIx, fSl, fSlL, fLen, fList, fTuple, fMax2, fMin2, fMax, fMin, fAbs, fInt, fIsi, fIsiN, fIsiC, gN, gT, gT0, gTC, diSeq, diRng1, diRng2, diEnum, dstart, De.off, exD, suiteD, List.map_cons, List.map_nil, List.length_cons, List.length_nil, Nat.reduceAdd, Nat.reduceSub, List.replicate_succ, List.replicate_zero, List.getElem?_cons_zero, List.getElem?_cons_succ, List.set_cons_zero, List.set_cons_succ, Option.some.injEq, exists_eq_left', exists_eq_left, exists_and_left, D.int.injEq, D.bl.injEq, D.lst.injEq, D.tup.injEq, D.str.injEq, D.exc.injEq, List.cons.injEq, and_true, true_and, List.nil_append, List.cons_append, List.append_nil, reduceCtorEq, false_and, exists_false, or_false, false_or, or_true, true_or, and_false, Int.reduceNeg, decide_eq_true_eq, Bool.not_eq_true', decide_eq_false_iff_not, and_assoc, Nat.zero_le, List.length_map, Int.zero_add, Int.reduceLT, Int.reduceLE, Int.reducePow, Int.reduceToNat, Int.reduceAdd, Int.reduceMul, Int.reduceSub, Nat.reduceLeDiff, fEq_ints, fNe_ints, fEq_lstsI, fNe_lstsI, fEq_tupsI, fNe_tupsI, noLA_ints, fSum_lst, fSum_tup, fSorted_lst, fSorted_tup, ↓reduceIte, Bool.false_eq_true, Bool.true_eq_false, false_implies, true_implies, implies_true, forall_const, Bool.not_true, Bool.not_false]
      refine ⟨by omega, by simp, by omega, by omega, by rw [List.length_range]; omega, hN _ ⟨some (.int (1 + (k : Int))), v2, ?_⟩⟩
      rw [show (1 + (k : Int)).toNat = k + 1 by omega, rep_int, List.range_succ (n := k + 1), List.map_append]
      rfl
    · rintro δ' ⟨v1, v2, rfl⟩
      rw [rangeD_length]
      subst eR
      dsimp only
      refine sq_cut fun R eR => ?_
      refine for_i (rangeD 0 (u - 1)) (fun k δ => ∃ (rows : List (List Int)) (v1 v2 : Option D), δ = [some (.int n), some (.int u), some (.int p), some (.lst (rows.map tupI)), v1, v2] ∧ rows.length = n + 1 ∧ ∀ j : Nat, j ≤ n → ∃ r, rows[j]? = some r ∧ Best p (k + 1) j r)
        (fun Q q => by simp only [fLenSet, fMul3, dTr, tru, dAsgT, gS, dMake2, dCBK, fMinD, dCallG, fRepr, fEqS, dSq, dAsg, dNx, dExp, dRet, dRetN, dIfS, dBk, dCt, dAppend, dInsert, dRemove, dPopAt, dSetAt, dRaise, dRaise0, dRaiseL, dVar, dC, dOp, dT, dChain, dNotT, dAndT, dOrT, dAndV, dOrV, dNotV, dIf, dNeg, dNil, dCons, dCB, dTup, dLst, dCall, dCallV, dCallF, dFld, dNoPart, dPart, dSl, dIsSeq, dBM, dTM, dXf, dYes, fSub, fDiv, fMod, fPow, fAdd, fCat, fMul, fRep, fLt, fLe, fGt, fGe, fIs, fIsNot, fIx, fSl, fSlL, fLen, fList, fTuple, fMax2, fMin2, fMax, fMin, fAbs, fInt, fIsi, fIsiN, fIsiC, gN, gT, gT0, gTC, diSeq, diRng1, diRng2, diEnum, dstart, De.off, exD, suiteD, List.map_cons, List.map_nil, List.length_cons, List.length_nil, Nat.reduceAdd, Nat.reduceSub, List.replicate_succ, List.replicate_zero, List.getElem?_cons_zero, List.getElem?_cons_succ, List.set_cons_zero, List.set_cons_succ, Option.some.injEq, exists_eq_left', exists_eq_left, exists_and_left, D.int.injEq, D.bl.injEq, D.lst.injEq, D.tup.injEq, D.str.injEq, D.exc.injEq, List.cons.injEq, and_true, true_and, List.nil_append, List.cons_append, List.append_nil, reduceCtorEq, false_and, exists_false, or_false, false_or, or_true, true_or, and_false, Int.reduceNeg, decide_eq_true_eq, Bool.not_eq_true', decide_eq_false_iff_not, and_assoc, Nat.zero_le, List.length_map, Int.zero_add, Int.reduceLT, Int.reduceLE, Int.reducePow, Int.reduceToNat, Int.reduceAdd, Int.reduceMul, Int.reduceSub, Nat.reduceLeDiff, fEq_ints, fNe_ints, fEq_lstsI, fNe_lstsI, fEq_tupsI, fNe_tupsI, noLA_ints, fSum_lst, fSum_tup, fSorted_lst, fSorted_tup, ↓reduceIte, Bool.false_eq_true, Bool.true_eq_false, false_implies, true_implies, implies_true, forall_const, Bool.not_true, Bool.not_false]; exact ⟨by omega, by omega, by rw [show ((u : Int) - 1).toNat = u - 1 by omega]; exact q⟩) ⟨(List.range (n + 1)).map fun j => List.replicate j 1, _, _, by rw [List.map_map]; rfl, by rw [List.length_map, List.length_range], fun j hj => ⟨List.replicate j 1, by rw [List.getElem?_map, List.getElem?_range (by omega)]; rfl, best_one p0 j⟩⟩ ?_ ?_
      · rintro k δ' x N hN ⟨rows, v1, v2, rfl, hl, hB⟩ hx
        rw [rangeD_get] at hx
        split at hx <;> cases hx
        simp only [fLenSet, fMul3, dTr, tru, dAsgT, gS, dMake2, dCBK, fMinD, dCallG, fRepr, fEqS, dSq, dAsg, dNx, dExp, dRet, dRetN, dIfS, dBk, dCt, dAppend, dInsert, dRemove, dPopAt, dSetAt, dRaise, dRaise0, dRaiseL, dVar, dC, dOp, dT, dChain, dNotT, dAndT, dOrT, dAndV, dOrV, dNotV, dIf, dNeg, dNil, dCons, dCB, dTup, dLst, dCall, dCallV, dCallF, dFld, dNoPart, dPart, dSl, dIsSeq, dBM, dTM, dXf, dYes, fSub, fDiv, fMod, fPow, fAdd, fCat, fMul, fRep, fLt, fLe, fGt, fGe, fIs, fIsNot, fIx, fSl, fSlL, fLen, fList, fTuple, fMax2, fMin2, fMax, fMin, fAbs, fInt, fIsi, fIsiN, fIsiC, gN, gT, gT0, gTC, diSeq, diRng1, diRng2, diEnum, dstart, De.off, exD, suiteD, List.map_cons, List.map_nil, List.length_cons, List.length_nil, Nat.reduceAdd, Nat.reduceSub, List.replicate_succ, List.replicate_zero, List.getElem?_cons_zero, List.getElem?_cons_succ, List.set_cons_zero, List.set_cons_succ, Option.some.injEq, exists_eq_left', exists_eq_left, exists_and_left, D.int.injEq, D.bl.injEq, D.lst.injEq, D.tup.injEq, D.str.injEq, D.exc.injEq, List.cons.injEq, and_true, true_and, List.nil_append, List.cons_append, List.append_nil, reduceCtorEq, false_and, exists_false, or_false, false_or, or_true, true_or, and_false, Int.reduceNeg, decide_eq_true_eq, Bool.not_eq_true', decide_eq_false_iff_not, and_assoc, Nat.zero_le, List.length_map, Int.zero_add, Int.reduceLT, Int.reduceLE, Int.reducePow, Int.reduceToNat, Int.reduceAdd, Int.reduceMul, Int.reduceSub, Nat.reduceLeDiff, fEq_ints, fNe_ints, fEq_lstsI, fNe_lstsI, fEq_tupsI, fNe_tupsI, noLA_ints, fSum_lst, fSum_tup, fSorted_lst, fSorted_tup, ↓reduceIte, Bool.false_eq_true, Bool.true_eq_false, false_implies, true_implies, implies_true, forall_const, Bool.not_true, Bool.not_false]
        refine lc_i (rangeD 0 (n + 1)) (fun i acc => ∃ rs : List (List Int), acc = rs.map tupI ∧ rs.length = i ∧ ∀ j : Nat, j < i → ∃ r, rs[j]? = some r ∧ Best p (k + 1 + 1) j r) (fun Q q => by simp only [fLenSet, fMul3, dTr, tru, dAsgT, gS, dMake2, dCBK, fMinD, dCallG, fRepr, fEqS, dSq, dAsg, dNx, dExp, dRet, dRetN, dIfS, dBk, dCt, dAppend, dInsert, dRemove, dPopAt, dSetAt, dRaise, dRaise0, dRaiseL, dVar, dC, dOp, dT, dChain, dNotT, dAndT, dOrT, dAndV, dOrV, dNotV, dIf, dNeg, dNil, dCons, dCB, dTup, dLst, dCall, dCallV, dCallF, dFld, dNoPart, dPart, dSl, dIsSeq, dBM, dTM, dXf, dYes, fSub, fDiv, fMod, fPow, fAdd, fCat, fMul, fRep, fLt, fLe, fGt, fGe, fIs, fIsNot, fIx, fSl, fSlL, fLen, fList, fTuple, fMax2, fMin2, fMax, fMin, fAbs, fInt, fIsi, fIsiN, fIsiC, gN, gT, gT0, gTC, diSeq, diRng1, diRng2, diEnum, dstart, De.off, exD, suiteD, List.map_cons, List.map_nil, List.length_cons, List.length_nil, Nat.reduceAdd, Nat.reduceSub, List.replicate_succ, List.replicate_zero, List.getElem?_cons_zero, List.getElem?_cons_succ, List.set_cons_zero, List.set_cons_succ, Option.some.injEq, exists_eq_left', exists_eq_left, exists_and_left, D.int.injEq, D.bl.injEq, D.lst.injEq, D.tup.injEq, D.str.injEq, D.exc.injEq, List.cons.injEq, and_true, true_and, List.nil_append, List.cons_append, List.append_nil, reduceCtorEq, false_and, exists_false, or_false, false_or, or_true, true_or, and_false, Int.reduceNeg, decide_eq_true_eq, Bool.not_eq_true', decide_eq_false_iff_not, and_assoc, Nat.zero_le, List.length_map, Int.zero_add, Int.reduceLT, Int.reduceLE, Int.reducePow, Int.reduceToNat, Int.reduceAdd, Int.reduceMul, Int.reduceSub, Nat.reduceLeDiff, fEq_ints, fNe_ints, fEq_lstsI, fNe_lstsI, fEq_tupsI, fNe_tupsI, noLA_ints, fSum_lst, fSum_tup, fSorted_lst, fSorted_tup, ↓reduceIte, Bool.false_eq_true, Bool.true_eq_false, false_implies, true_implies, implies_true, forall_const, Bool.not_true, Bool.not_false]; exact ⟨by omega, by omega, by rw [show ((n : Int) + 1).toNat = n + 1 by omega]; exact q⟩) ⟨[], rfl, rfl, fun j z => absurd z (Nat.not_lt_zero j)⟩ ?_ ?_
        · rintro i acc y M hM ⟨rs, rfl, hi, hr⟩ hy
          rw [rangeD_get] at hy
          split at hy <;> cases hy
          rename_i hin
          simp only [fLenSet, fMul3, dTr, tru, dAsgT, gS, dMake2, dCBK, fMinD, dCallG, fRepr, fEqS, dSq, dAsg, dNx, dExp, dRet, dRetN, dIfS, dBk, dCt, dAppend, dInsert, dRemove, dPopAt, dSetAt, dRaise, dRaise0, dRaiseL, dVar, dC, dOp, dT, dChain, dNotT, dAndT, dOrT, dAndV, dOrV, dNotV, dIf, dNeg, dNil, dCons, dCB, dTup, dLst, dCall, dCallV, dCallF, dFld, dNoPart, dPart, dSl, dIsSeq, dBM, dTM, dXf, dYes, fSub, fDiv, fMod, fPow, fAdd, fCat, fMul, fRep, fLt, fLe, fGt, fGe, fIs, fIsNot, fIx, fSl, fSlL, fLen, fList, fTuple, fMax2, fMin2, fMax, fMin, fAbs, fInt, fIsi, fIsiN, fIsiC, gN, gT, gT0, gTC, diSeq, diRng1, diRng2, diEnum, dstart, De.off, exD, suiteD, List.map_cons, List.map_nil, List.length_cons, List.length_nil, Nat.reduceAdd, Nat.reduceSub, List.replicate_succ, List.replicate_zero, List.getElem?_cons_zero, List.getElem?_cons_succ, List.set_cons_zero, List.set_cons_succ, Option.some.injEq, exists_eq_left', exists_eq_left, exists_and_left, D.int.injEq, D.bl.injEq, D.lst.injEq, D.tup.injEq, D.str.injEq, D.exc.injEq, List.cons.injEq, and_true, true_and, List.nil_append, List.cons_append, List.append_nil, reduceCtorEq, false_and, exists_false, or_false, false_or, or_true, true_or, and_false, Int.reduceNeg, decide_eq_true_eq, Bool.not_eq_true', decide_eq_false_iff_not, and_assoc, Nat.zero_le, List.length_map, Int.zero_add, Int.reduceLT, Int.reduceLE, Int.reducePow, Int.reduceToNat, Int.reduceAdd, Int.reduceMul, Int.reduceSub, Nat.reduceLeDiff, fEq_ints, fNe_ints, fEq_lstsI, fNe_lstsI, fEq_tupsI, fNe_tupsI, noLA_ints, fSum_lst, fSum_tup, fSorted_lst, fSorted_tup, ↓reduceIte, Bool.false_eq_true, Bool.true_eq_false, false_implies, true_implies, implies_true, forall_const, Bool.not_true, Bool.not_false, wipeD, s_d_greatest_grown]
          refine ⟨rows, rfl, k + 1, i, rfl, p0, p1, by omega, fun j hj => hB j (by omega), fun r hb => ⟨by omega, hM _ ⟨rs ++ [r], by rw [List.map_append]; rfl, by rw [List.length_append, hi]; rfl, fun j hj => ?_⟩⟩⟩
          by_cases e : j < rs.length
          · obtain ⟨r2, h2, h3⟩ := hr j (by omega)
            exact ⟨r2, by rw [List.getElem?_append_left e]; exact h2, h3⟩
          · obtain rfl : j = rs.length := by omega
            refine ⟨r, by rw [List.getElem?_append_right (Nat.le_refl _), Nat.sub_self]; rfl, ?_⟩
            rw [hi]
            exact hb
        · rintro acc ⟨rs, rfl, hi, hr⟩
          rw [rangeD_length] at hi hr
          exact hN _ ⟨rs, _, _, rfl, hi, fun j hj => hr j (by omega)⟩
      · rintro δ' ⟨rows, v1, v2, rfl, hl, hB⟩
        rw [rangeD_length] at hB
        subst eR
        obtain ⟨r, h1, h2⟩ := hB n (Nat.le_refl _)
        rw [show u - 1 + 1 = u by omega] at h2
        have a1 : atI (rows.map tupI) (n : Int) = some (tupI r) := atI_nat (by rw [List.getElem?_map, h1]; rfl)
        simp only [fLenSet, fMul3, dTr, tru, dAsgT, gS, dMake2, dCBK, fMinD, dCallG, fRepr, fEqS, dSq, dAsg, dNx, dExp, dRet, dRetN, dIfS, dBk, dCt, dAppend, dInsert, dRemove, dPopAt, dSetAt, dRaise, dRaise0, dRaiseL, dVar, dC, dOp, dT, dChain, dNotT, dAndT, dOrT, dAndV, dOrV, dNotV, dIf, dNeg, dNil, dCons, dCB, dTup, dLst, dCall, dCallV, dCallF, dFld, dNoPart, dPart, dSl, dIsSeq, dBM, dTM, dXf, dYes, fSub, fDiv, fMod, fPow, fAdd, fCat, fMul, fRep, fLt, fLe, fGt, fGe, fIs, fIsNot, fIx, fSl, fSlL, fLen, fList, fTuple, fMax2, fMin2, fMax, fMin, fAbs, fInt, fIsi, fIsiN, fIsiC, gN, gT, gT0, gTC, diSeq, diRng1, diRng2, diEnum, dstart, De.off, exD, suiteD, List.map_cons, List.map_nil, List.length_cons, List.length_nil, Nat.reduceAdd, Nat.reduceSub, List.replicate_succ, List.replicate_zero, List.getElem?_cons_zero, List.getElem?_cons_succ, List.set_cons_zero, List.set_cons_succ, Option.some.injEq, exists_eq_left', exists_eq_left, exists_and_left, D.int.injEq, D.bl.injEq, D.lst.injEq, D.tup.injEq, D.str.injEq, D.exc.injEq, List.cons.injEq, and_true, true_and, List.nil_append, List.cons_append, List.append_nil, reduceCtorEq, false_and, exists_false, or_false, false_or, or_true, true_or, and_false, Int.reduceNeg, decide_eq_true_eq, Bool.not_eq_true', decide_eq_false_iff_not, and_assoc, Nat.zero_le, List.length_map, Int.zero_add, Int.reduceLT, Int.reduceLE, Int.reducePow, Int.reduceToNat, Int.reduceAdd, Int.reduceMul, Int.reduceSub, Nat.reduceLeDiff, fEq_ints, fNe_ints, fEq_lstsI, fNe_lstsI, fEq_tupsI, fNe_tupsI, noLA_ints, fSum_lst, fSum_tup, fSorted_lst, fSorted_tup, ↓reduceIte, Bool.false_eq_true, Bool.true_eq_false, false_implies, true_implies, implies_true, forall_const, Bool.not_true, Bool.not_false]
        refine ⟨_, a1, ?_⟩
        simp only [fLenSet, fMul3, dTr, tru, dAsgT, gS, dMake2, dCBK, fMinD, dCallG, fRepr, fEqS, dSq, dAsg, dNx, dExp, dRet, dRetN, dIfS, dBk, dCt, dAppend, dInsert, dRemove, dPopAt, dSetAt, dRaise, dRaise0, dRaiseL, dVar, dC, dOp, dT, dChain, dNotT, dAndT, dOrT, dAndV, dOrV, dNotV, dIf, dNeg, dNil, dCons, dCB, dTup, dLst, dCall, dCallV, dCallF, dFld, dNoPart, dPart, dSl, dIsSeq, dBM, dTM, dXf, dYes, fSub, fDiv, fMod, fPow, fAdd, fCat, fMul, fRep, fLt, fLe, fGt, fGe, fIs, fIsNot, fIx, fSl, fSlL, fLen, fList, fTuple, fMax2, fMin2, fMax, fMin, fAbs, fInt, fIsi, fIsiN, fIsiC, gN, gT, gT0, gTC, diSeq, diRng1, diRng2, diEnum, dstart, De.off, exD, suiteD, List.map_cons, List.map_nil, List.length_cons, List.length_nil, Nat.reduceAdd, Nat.reduceSub, List.replicate_succ, List.replicate_zero, List.getElem?_cons_zero, List.getElem?_cons_succ, List.set_cons_zero, List.set_cons_succ, Option.some.injEq, exists_eq_left', exists_eq_left, exists_and_left, D.int.injEq, D.bl.injEq, D.lst.injEq, D.tup.injEq, D.str.injEq, D.exc.injEq, List.cons.injEq, and_true, true_and, List.nil_append, List.cons_append, List.append_nil, reduceCtorEq, false_and, exists_false, or_false, false_or, or_true, true_or, and_false, Int.reduceNeg, decide_eq_true_eq, Bool.not_eq_true', decide_eq_false_iff_not, and_assoc, Nat.zero_le, List.length_map, Int.zero_add, Int.reduceLT, Int.reduceLE, Int.reducePow, Int.reduceToNat, Int.reduceAdd, Int.reduceMul, Int.reduceSub, Nat.reduceLeDiff, fEq_ints, fNe_ints, fEq_lstsI, fNe_lstsI, fEq_tupsI, fNe_tupsI, noLA_ints, fSum_lst, fSum_tup, fSorted_lst, fSorted_tup, ↓reduceIte, Bool.false_eq_true, Bool.true_eq_false, false_implies, true_implies, implies_true, forall_const, Bool.not_true, Bool.not_false]
        refine ⟨_, a1, by omega, ?_⟩
        exact q5 r h2

end
end My
set_option Elab.async false
set_option linter.all false
set_option maxRecDepth 100000
set_option maxHeartbeats 4000000
namespace My
open PySem PySem.Spec PyProof.Rows L2 Gen DL
section
variable {P : Program} {w : World} {K : PySem.W.Frag} {mg : Str → Option Value} {base : Heap} { cBadPeople cBadCount cBadTotal cBadCoin cBadUnlike : Addr}
abbrev sp_l_mix (_ : PySem.W.Frag) : Sp := spMix
theorem len_l_mix {vs H Q E} (h : sp_l_mix K vs H Q E) : vs.length = 2 := by
  obtain ⟨_, _, rfl, _⟩ := h; rfl
theorem ok_l_mix {f : Addr} {fd : FuncData} (F : Fun K "_law_mix" "_law_mix" s_l_mix f fd) (T : Txt K mg cBadPeople cBadCount cBadTotal cBadCoin cBadUnlike) : FnOk P w K mg base CX0 1 f fd ps_l_mix (sp_l_mix K) := by
  refine F.ok (k := 0) sc_l_mix (fun vs H Q E h => len_l_mix h) (fun cdv A outer s H vs Q E hr h => ?_)
  refine ⟨_, (pss_cons (ps_set (i := 2) sc_l_mix.nd rfl (Or.inl rfl) (pe_op op_mod (pe_callTy call_int1 (by rfl) T.n_int (by decide +kernel) (pa_cons (pe_op op_add (pe_op op_add (pe_op op_mul (pv 0) pe_int) (pe_op op_mul (pv 1) pe_int)) pe_int) pa_nil)) pe_int))
      (pss_cons (ps_set (i := 3) sc_l_mix.nd rfl (Or.inl rfl) (pe_op op_mod (pe_callTy call_int1 (by rfl) T.n_int (by decide +kernel) (pa_cons (pe_op op_add (pe_op op_add (pe_op op_mul (pv 2) (pv 2)) (pe_op op_mul (pe_op op_fdivW (pv 2) pe_int) pe_int)) (pe_op op_mul (pv 1) pe_int)) pa_nil)) pe_int))
      (pss_one (ps_ret (pe_op op_fdivW (pe_op op_mod (pe_callTy call_int1 (by rfl) T.n_int (by decide +kernel) (pa_cons (pe_op op_add (pe_op op_fdivW (pe_op op_mul (pv 3) (pv 3)) pe_int) (pv 2)) pa_nil)) pe_int) pe_int))))), ?_⟩
  obtain ⟨n, t, rfl, n0, n1, t0, t1, q⟩ := h
  simp only [tSeq, tAsg, tDrop, tRet, tRetN, tIfS, tNext, tTest, tB, tNot, tAnd, tOr, tChain, tIf, tAndV, tOrV, tNotV, tOp, tUn, tCB, tCons, tNil, tVar, tC, tCall, tCallS, gName, rI, rI0, rU, rEq, rNe, tTup, tLst, gSub, rSetL, rIxL, rIxT, L2.start, List.map_cons, List.map_nil, List.length_cons, List.length_nil, Nat.reduceAdd, Nat.reduceSub, List.replicate_succ, List.replicate_zero, List.getElem?_cons_zero, List.getElem?_cons_succ, List.set_cons_zero, List.set_cons_succ, Option.some.injEq, exists_eq_left', exists_eq_left, exists_and_left, V.int.injEq, V.bl.injEq, V.ref.injEq, V.str.injEq, List.cons.injEq, and_true, true_and, List.nil_append, List.cons_append, List.append_nil, reduceCtorEq, false_and, exists_false, or_false, false_or, and_false, Int.reduceNeg, decide_eq_true_eq, Bool.not_eq_true', decide_eq_false_iff_not, and_assoc, tYes, ↓reduceIte, wipe, Bool.false_eq_true, Bool.true_eq_false, cxOf, false_implies, true_implies, implies_true, forall_const]
  have a0 := Int.emod_nonneg (n * 48271 + t * 16807 + 11) (b := 2147483647) (by decide)
  have a1 := Int.emod_lt_of_pos (n * 48271 + t * 16807 + 11) (b := 2147483647) (by decide)
  generalize (n * 48271 + t * 16807 + 11) % 2147483647 = x at a0 a1 ⊢
  refine ⟨cmr (by decide) (by decide), cmr (by decide) (by decide), by decide, cml (by omega) (by omega), cdw (by decide) (by decide), cmr (by decide) (by decide), cmr (by decide) (by decide), by decide, ?_⟩
  have b0 := Int.emod_nonneg (x * x + x / 127 * 40692 + t * 69621) (b := 2147483399) (by decide)
  have b1 := Int.emod_lt_of_pos (x * x + x / 127 * 40692 + t * 69621) (b := 2147483399) (by decide)
  generalize (x * x + x / 127 * 40692 + t * 69621) % 2147483399 = y at b0 b1 ⊢
  exact ⟨cml (by omega) (by omega), cdw (by decide) (by decide), by decide, cdw (by decide) (by decide), q _ (Int.ediv_nonneg (Int.emod_nonneg _ (by decide)) (by decide))⟩
theorem abs_take {ns : List Int} {i : Nat} {c : Int} (h : ns[i]? = some c) : ((ns.take (i + 1)).map fun c => V.int (if c < 0 then -c else c)) = ((ns.take i).map fun c => V.int (if c < 0 then -c else c)) ++ [V.int (if c < 0 then -c else c)] := by
  rw [List.take_add_one, h, List.map_append]
  rfl
abbrev sp_l_hand (K : PySem.W.Frag) : Sp := spHand K
theorem len_l_hand {vs H Q E} (h : sp_l_hand K vs H Q E) : vs.length = 1 := by
  obtain ⟨_, _, rfl, _⟩ := h; rfl
theorem ok_l_hand {f : Addr} {fd : FuncData} (F : Fun K "_law_hand" "_law_hand" s_l_hand f fd) (T : Txt K mg cBadPeople cBadCount cBadTotal cBadCoin cBadUnlike) : FnOk P w K mg base CX0 1 f fd ps_l_hand (sp_l_hand K) := by
  refine F.ok (k := 0) sc_l_hand (fun vs H Q E h => len_l_hand h) (fun cdv A outer s H vs Q E hr h => ?_)
  refine ⟨_, (pss_cons (ps_set (i := 1) sc_l_hand.nd rfl (Or.inl rfl) pe_int)
      (pss_cons (ps_for PassesOwn.never rfl (pi_enum (by rfl) T.n_enumerate (pa_cons (pv 0) pa_nil)) (pg_tup rfl (pgs_cons (pg_name (i := 2) sc_l_hand.nd rfl (Or.inl rfl)) (pgs_cons (pg_name (i := 3) sc_l_hand.nd rfl (Or.inl rfl)) pgs_nil)))
      (pss_one (ps_set (i := 1) sc_l_hand.nd rfl (Or.inl rfl) (pe_op op_mod (pe_callTy call_int1 (by rfl) T.n_int (by decide +kernel) (pa_cons (pe_op op_add (pe_op op_mul (pv 1) pe_int) (pe_op op_mul (pe_callTy call_int1 (by rfl) T.n_int (by decide +kernel) (pa_cons (pv 3) pa_nil)) (pe_op op_add (pv 2) pe_int))) pa_nil)) pe_int))))
      (pss_one (ps_ret (pe_lst (pa_cons (pe_lc (own := [("_law_cell", 3)]) (g := gName 3) (tt := tYes) rfl sc_l_hand.nd (pi_list (pv 0)) (blkOk_by (N := nm_l_hand) (sc := defScope s_l_hand) (by decide +kernel)) (fun _ _ _ _ _ => (pg_name (i := 3) sc_l_hand.nd rfl (Or.inl rfl))) (fun _ _ _ _ _ => pts_nil) (fun _ _ _ _ _ => (pe_callB call_abs (by rfl) T.n_abs (by decide +kernel) (pa_cons (pe_callTy call_int1 (by rfl) T.n_int (by decide +kernel) (pa_cons (pv 3) pa_nil)) pa_nil)))) (pa_cons pe_int (pa_cons pe_int (pa_cons (pv 1) pa_nil))))))))), ?_⟩
  obtain ⟨a, ns, rfl, hS, hn, q⟩ := h
  simp only [tSeq, tAsg, tDrop, tRet, tRetN, tIfS, tNext, tTest, tB, tNot, tAnd, tOr, tChain, tIf, tAndV, tOrV, tNotV, tOp, tUn, tCB, tCons, tNil, tVar, tC, tCall, tCallS, gName, rI, rI0, rU, rEq, rNe, tTup, tLst, gSub, rSetL, rIxL, rIxT, L2.start, List.map_cons, List.map_nil, List.length_cons, List.length_nil, Nat.reduceAdd, Nat.reduceSub, List.replicate_succ, List.replicate_zero, List.getElem?_cons_zero, List.getElem?_cons_succ, List.set_cons_zero, List.set_cons_succ, Option.some.injEq, exists_eq_left', exists_eq_left, exists_and_left, V.int.injEq, V.bl.injEq, V.ref.injEq, V.str.injEq, List.cons.injEq, and_true, true_and, List.nil_append, List.cons_append, List.append_nil, reduceCtorEq, false_and, exists_false, or_false, false_or, and_false, Int.reduceNeg, decide_eq_true_eq, Bool.not_eq_true', decide_eq_false_iff_not, and_assoc, tYes, ↓reduceIte, wipe, Bool.false_eq_true, Bool.true_eq_false, cxOf, false_implies, true_implies, implies_true, forall_const]
  refine ⟨_, rfl, a, _, rfl, hS, for_enum (K := K) (a := a) (xs := ns.map V.int) (fun i z h => ∃ (t : Int) (v u : Option V), z = [some (.ref a), some (.int t), v, u] ∧ 0 ≤ t ∧ t < 2147483629 ∧ Same H h)
    ⟨0, none, none, rfl, by decide, by decide, Same.refl H⟩ (fun i z h _ ⟨_, _, _, _, _, _, s⟩ => s.seq hS) ?_ ?_⟩
  · rintro i y T z h hi hT ⟨t, v, u, rfl, t0, t1, s⟩
    obtain ⟨c, hc, rfl⟩ := nat_map hi
    have hil := (List.getElem?_eq_some_iff.mp hc).1
    refine ⟨T, _, rfl, SqT.of upd_same, rfl, _, _, rfl, _, _, rfl, rfl, ?_⟩
    simp only [tSeq, tAsg, tDrop, tRet, tRetN, tIfS, tNext, tTest, tB, tNot, tAnd, tOr, tChain, tIf, tAndV, tOrV, tNotV, tOp, tUn, tCB, tCons, tNil, tVar, tC, tCall, tCallS, gName, rI, rI0, rU, rEq, rNe, tTup, tLst, gSub, rSetL, rIxL, rIxT, L2.start, List.map_cons, List.map_nil, List.length_cons, List.length_nil, Nat.reduceAdd, Nat.reduceSub, List.replicate_succ, List.replicate_zero, List.getElem?_cons_zero, List.getElem?_cons_succ, List.set_cons_zero, List.set_cons_succ, Option.some.injEq, exists_eq_left', exists_eq_left, exists_and_left, V.int.injEq, V.bl.injEq, V.ref.injEq, V.str.injEq, List.cons.injEq, and_true, true_and, List.nil_append, List.cons_append, List.append_nil, reduceCtorEq, false_and, exists_false, or_false, false_or, and_false, Int.reduceNeg, decide_eq_true_eq, Bool.not_eq_true', decide_eq_false_iff_not, and_assoc, tYes, ↓reduceIte, wipe, Bool.false_eq_true, Bool.true_eq_false, cxOf, false_implies, true_implies, implies_true, forall_const]
    exact ⟨cmr (by decide) (by decide), cmr (by omega) (by omega), by decide, Int.emod_nonneg _ (by decide), Int.emod_lt_of_pos _ (by decide), s.trans (Same.new hT)⟩
  · rintro z h ⟨t, v, u, rfl, t0, t1, s⟩
    simp only [tSeq, tAsg, tDrop, tRet, tRetN, tIfS, tNext, tTest, tB, tNot, tAnd, tOr, tChain, tIf, tAndV, tOrV, tNotV, tOp, tUn, tCB, tCons, tNil, tVar, tC, tCall, tCallS, gName, rI, rI0, rU, rEq, rNe, tTup, tLst, gSub, rSetL, rIxL, rIxT, L2.start, List.map_cons, List.map_nil, List.length_cons, List.length_nil, Nat.reduceAdd, Nat.reduceSub, List.replicate_succ, List.replicate_zero, List.getElem?_cons_zero, List.getElem?_cons_succ, List.set_cons_zero, List.set_cons_succ, Option.some.injEq, exists_eq_left', exists_eq_left, exists_and_left, V.int.injEq, V.bl.injEq, V.ref.injEq, V.str.injEq, List.cons.injEq, and_true, true_and, List.nil_append, List.cons_append, List.append_nil, reduceCtorEq, false_and, exists_false, or_false, false_or, and_false, Int.reduceNeg, decide_eq_true_eq, Bool.not_eq_true', decide_eq_false_iff_not, and_assoc, tYes, ↓reduceIte, wipe, Bool.false_eq_true, Bool.true_eq_false, cxOf, false_implies, true_implies, implies_true, forall_const]
    refine ⟨_, rfl, a, rfl, ⟨_, s.seq hS⟩, fun D hD => lc_list (K := K) (a := a) (xs := ns.map V.int) (fun i h' => Same h h' ∧ h' D = some (.lst ((ns.take i).map fun c => V.int (if c < 0 then -c else c)))) ⟨Same.new hD, upd_same⟩ (fun i h' _ ⟨s', _⟩ => (s.trans s').seq hS) ?_ ?_⟩
    · rintro i y h' hi ⟨s', e'⟩
      obtain ⟨c, hc, rfl⟩ := nat_map hi
      have hil := (List.getElem?_eq_some_iff.mp hc).1
      simp only [tSeq, tAsg, tDrop, tRet, tRetN, tIfS, tNext, tTest, tB, tNot, tAnd, tOr, tChain, tIf, tAndV, tOrV, tNotV, tOp, tUn, tCB, tCons, tNil, tVar, tC, tCall, tCallS, gName, rI, rI0, rU, rEq, rNe, tTup, tLst, gSub, rSetL, rIxL, rIxT, L2.start, List.map_cons, List.map_nil, List.length_cons, List.length_nil, Nat.reduceAdd, Nat.reduceSub, List.replicate_succ, List.replicate_zero, List.getElem?_cons_zero, List.getElem?_cons_succ, List.set_cons_zero, List.set_cons_succ, Option.some.injEq, exists_eq_left', exists_eq_left, exists_and_left, V.int.injEq, V.bl.injEq, V.ref.injEq, V.str.injEq, List.cons.injEq, and_true, true_and, List.nil_append, List.cons_append, List.append_nil, reduceCtorEq, false_and, exists_false, or_false, false_or, and_false, Int.reduceNeg, decide_eq_true_eq, Bool.not_eq_true', decide_eq_false_iff_not, and_assoc, tYes, ↓reduceIte, wipe, Bool.false_eq_true, Bool.true_eq_false, cxOf, false_implies, true_implies, implies_true, forall_const]
      refine ⟨_, e', by rw [List.length_map, List.length_take]; exact small1000 (by omega), fun b o e => ?_, by rw [upd_same, abs_take hc]⟩
      rw [upd_ne (ne_of_none e hD)]
      exact s' b o e
    · rintro h' ⟨s', e'⟩
      refine ⟨by decide, fun p hp => q p D _ (s.trans (s'.trans (Same.new hp))) ⟨ns.map fun c => if c < 0 then -c else c, 0, 0, t, upd_same, ?_, by rw [List.length_map]; exact hn, ?_, by omega, by omega, by omega, t0, t1⟩⟩
      · rw [upd_ne (ne_of_none e' hp), e', List.length_map, List.take_length, List.map_map]
        rfl
      · intro c hc
        obtain ⟨b, _, rfl⟩ := List.mem_map.mp hc
        split <;> omega
abbrev sp_l_draw (_ : PySem.W.Frag) : Sp := spDraw
theorem len_l_draw {vs H Q E} (h : sp_l_draw K vs H Q E) : vs.length = 2 := by
  obtain ⟨_, _, _, rfl, _⟩ := h; rfl
theorem okr_l_draw {f : Addr} {fd : FuncData} (F : Fun K "_law_draw" "_law_draw" s_l_draw f fd) (T : Txt K mg cBadPeople cBadCount cBadTotal cBadCoin cBadUnlike) : FnOk P w K mg base CX0 2 f fd ps_l_draw (sp_l_draw K) := by
  obtain ⟨f_l_mix, fd_l_mix, F_l_mix, m_l_mix, b_l_mix⟩ := T.d_l_mix
  have G_l_mix : FnOk P w K mg base CX0 1 f_l_mix fd_l_mix ps_l_mix (sp_l_mix K) := ok_l_mix F_l_mix T
  refine F.ok (k := 1) sc_l_draw (fun vs H Q E h => len_l_draw h) (fun cdv A outer s H vs Q E hr h => ?_)
  refine ⟨_, (pss_cons (ps_if (PW.pt (pw_and (pt_cmpR op_eq (pe_ix ix_list (pv 0) pe_int (fun _ _ => rfl)) pe_int (nomark _)) (pw_and1 (pt_cmpR op_lt (pe_ix ix_list (pv 0) pe_int (fun _ _ => rfl)) (pe_callB call_len_seq (by rfl) T.n_len (by decide +kernel) (pa_cons (pe_ix ix_list (pv 0) pe_int (fun _ _ => rfl)) pa_nil)) (nomark _))))) (pss_cons (ps_set (i := 2) sc_l_draw.nd rfl (Or.inl rfl) (pe_ix ix_list (pe_ix ix_list (pv 0) pe_int (fun _ _ => rfl)) (pe_ix ix_list (pv 0) pe_int (fun _ _ => rfl)) (fun _ _ => rfl)))
      (pss_cons (ps_asg (pe_op op_add (pe_ix ix_list (pv 0) pe_int (fun _ _ => rfl)) pe_int) (pg_sub (pv 0) pe_int set_list))
      (pss_cons (ps_if (pt_cmpR op_lt (pv 2) (pe_op op_pow pe_int pe_int) (nomark _)) (pss_one (ps_ret (pe_op op_mod (pe_callTy call_int1 (by rfl) T.n_int (by decide +kernel) (pa_cons (pe_call G_l_mix (hr.mono (by decide)) (by rfl) m_l_mix F_l_mix.kp b_l_mix .nil pass0 (pa_cons (pe_op op_mod (pe_callTy call_int1 (by rfl) T.n_int (by decide +kernel) (pa_cons (pv 2) pa_nil)) pe_int) (pa_cons (pe_ix ix_list (pv 0) pe_int (fun _ _ => rfl)) pa_nil))) pa_nil)) (pv 1)))) pss_nil)
      (pss_one (ps_asg (pv 2) (pg_sub (pv 0) pe_int set_list)))))) pss_nil)
      (pss_cons (ps_if (pt_cmpR op_gt (pe_ix ix_list (pv 0) pe_int (fun _ _ => rfl)) pe_int (nomark _)) (pss_cons (ps_set (i := 3) sc_l_draw.nd rfl (Or.inl rfl) (pe_ix ix_list (pv 0) pe_int (fun _ _ => rfl)))
      (pss_cons (ps_asg (pe_op op_fdivW (pv 3) (pv 1)) (pg_sub (pv 0) pe_int set_list))
      (pss_one (ps_ret (pe_op op_mod (pe_callTy call_int1 (by rfl) T.n_int (by decide +kernel) (pa_cons (pv 3) pa_nil)) (pv 1)))))) pss_nil)
      (pss_cons (ps_asg (pe_op op_mod (pe_callTy call_int1 (by rfl) T.n_int (by decide +kernel) (pa_cons (pe_op op_add (pe_ix ix_list (pv 0) pe_int (fun _ _ => rfl)) pe_int) pa_nil)) pe_int) (pg_sub (pv 0) pe_int set_list))
      (pss_one (ps_ret (pe_op op_mod (pe_callTy call_int1 (by rfl) T.n_int (by decide +kernel) (pa_cons (pe_call G_l_mix (hr.mono (by decide)) (by rfl) m_l_mix F_l_mix.kp b_l_mix .nil pass0 (pa_cons (pe_ix ix_list (pv 0) pe_int (fun _ _ => rfl)) (pa_cons (pe_ix ix_list (pv 0) pe_int (fun _ _ => rfl)) pa_nil))) pa_nil)) (pv 1))))))), ?_⟩
  obtain ⟨h, q, m, rfl, hh, m0, m1, k⟩ := h
  obtain ⟨cs, i, r, t, h1, h2, cl, c0, i0, il, r0, t0, t1⟩ := hh.ex
  simp only [tSeq, tAsg, tDrop, tRet, tRetN, tIfS, tNext, tTest, tB, tNot, tAnd, tOr, tChain, tIf, tAndV, tOrV, tNotV, tOp, tUn, tCB, tCons, tNil, tVar, tC, tCall, tCallS, gName, rI, rI0, rU, rEq, rNe, tTup, tLst, gSub, rSetL, rIxL, rIxT, L2.start, List.map_cons, List.map_nil, List.length_cons, List.length_nil, Nat.reduceAdd, Nat.reduceSub, List.replicate_succ, List.replicate_zero, List.getElem?_cons_zero, List.getElem?_cons_succ, List.set_cons_zero, List.set_cons_succ, Option.some.injEq, exists_eq_left', exists_eq_left, exists_and_left, V.int.injEq, V.bl.injEq, V.ref.injEq, V.str.injEq, List.cons.injEq, and_true, true_and, List.nil_append, List.cons_append, List.append_nil, reduceCtorEq, false_and, exists_false, or_false, false_or, and_false, Int.reduceNeg, decide_eq_true_eq, Bool.not_eq_true', decide_eq_false_iff_not, and_assoc, tYes, ↓reduceIte, wipe, Bool.false_eq_true, Bool.true_eq_false, cxOf, false_implies, true_implies, implies_true, forall_const, spMix]
  refine ⟨_, SqL.of h1, _, rfl, rfl, ?_⟩
  split
  · rename_i e
    obtain rfl : r = 0 := by injection e
    refine ⟨_, SqL.of h1, _, rfl, _, SqL.of h1, _, rfl, q, rfl, _, .inl (SqL.of h2), i, rfl, ?_⟩
    split
    · rename_i hi
      obtain ⟨j, rfl⟩ := Int.eq_ofNat_of_zero_le i0
      have hj : j < cs.length := by
        rw [List.length_map] at hi
        omega
      have hc' : (cs.map V.int)[j]? = some (.int cs[j]) := by rw [List.getElem?_map, List.getElem?_eq_getElem hj]; rfl
      have cj : 0 ≤ cs[j] := c0 _ (List.getElem_mem hj)
      have e18 : (10 : Int) ^ Int.toNat 18 = 1000000000000000000 := by decide
      refine ⟨_, SqL.of h1, _, rfl, _, SqL.of h1, _, rfl, q, rfl, _, _, rfl, SqL.of h2, _, atI_nat hc', _, SqL.of h1, _, rfl, _, rfl, _, h1, 1, rfl, ⟨by decide, by decide, by decide⟩, cs[j], rfl, ?_⟩
      split
      · refine .inl ⟨cs[j], rfl, by decide, _, SqL.of upd_same, _, rfl, _, rfl, Int.emod_nonneg _ (by decide), Int.lt_trans (Int.emod_lt_of_pos _ (by decide)) (by decide), by omega, by omega, fun r' hr' => ⟨m0, k _ _ (Int.emod_nonneg _ (by omega)) (Int.emod_lt_of_pos _ m0) ?_ But.upd⟩⟩
        exact ⟨cs, (j : Int) + 1, 0, t, upd_same, by rw [upd_ne hh.ne.symm]; exact h2, cl, c0, by omega, by omega, by omega, t0, t1⟩
      · rename_i e2
        rw [e18] at e2
        refine ⟨_, upd_same, 2, rfl, _, SqL.of upd_same, _, rfl, cs[j], rfl, ?_⟩
        rw [if_pos (by omega)]
        refine ⟨_, SqL.of upd_same, _, rfl, cs[j], rfl, cdw m0 m1, _, upd_same, 2, rfl, .inl ⟨cs[j], rfl, m0, k _ _ (Int.emod_nonneg _ (by omega)) (Int.emod_lt_of_pos _ m0) ?_ But.upd.then.then⟩⟩
        exact ⟨cs, (j : Int) + 1, cs[j] / m, t, upd_same, by rw [upd_ne hh.ne.symm, upd_ne hh.ne.symm, upd_ne hh.ne.symm]; exact h2, cl, c0, by omega, by omega, Int.ediv_nonneg cj (by omega), t0, t1⟩
    · rename_i hi
      refine ⟨_, SqL.of h1, _, rfl, 0, rfl, ?_⟩
      rw [if_neg (by decide)]
      refine ⟨_, SqL.of h1, _, rfl, t, rfl, by decide, _, h1, 3, rfl, _, SqL.of upd_same, _, rfl, _, SqL.of upd_same, _, rfl, _, rfl, _, rfl, Int.emod_nonneg _ (by decide), Int.lt_trans (Int.emod_lt_of_pos _ (by decide)) (by decide), by omega, by omega,
        fun r' hr' => ⟨m0, k _ _ (Int.emod_nonneg _ (by omega)) (Int.emod_lt_of_pos _ m0) ?_ But.upd⟩⟩
      exact ⟨cs, i, 0, (t + 1) % 2147483629, upd_same, by rw [upd_ne hh.ne.symm]; exact h2, cl, c0, by omega, by omega, by omega, Int.emod_nonneg _ (by decide), Int.emod_lt_of_pos _ (by decide)⟩
  · rename_i e
    have e' : r ≠ 0 := fun z => e (by rw [z])
    refine ⟨_, SqL.of h1, _, rfl, r, rfl, ?_⟩
    rw [if_pos (by omega)]
    refine ⟨_, SqL.of h1, _, rfl, r, rfl, cdw m0 m1, _, h1, 2, rfl, .inl ⟨r, rfl, m0, k _ _ (Int.emod_nonneg _ (by omega)) (Int.emod_lt_of_pos _ m0) ?_ But.upd⟩⟩
    exact ⟨cs, i, r / m, t, upd_same, by rw [upd_ne hh.ne.symm]; exact h2, cl, c0, by omega, by omega, Int.ediv_nonneg r0 (by omega), t0, t1⟩
abbrev s_d_l_draw : SpD := sDraw
theorem ok_l_draw {f : Addr} {fd : FuncData} (F : Fun K "_law_draw" "_law_draw" s_l_draw f fd) (T : Txt K mg cBadPeople cBadCount cBadTotal cBadCoin cBadUnlike) : FnOk P w K mg base CX0 2 f fd ps_l_draw (spOf s_d_l_draw) := fn_draw (okr_l_draw F T)

end
end My
set_option Elab.async false
set_option linter.all false
set_option maxRecDepth 100000
set_option maxHeartbeats 4000000
namespace My
open PySem PySem.Spec PyProof.Rows L2 Gen DL
section
variable {P : Program} {w : World} {K : PySem.W.Frag} {mg : Str → Option Value} {base : Heap} { cBadPeople cBadCount cBadTotal cBadCoin cBadUnlike : Addr}
theorem atI_in {xs : List D} {i : Int} (h0 : 0 ≤ i) (h1 : i < xs.length) : ∃ y, y ∈ xs ∧ atI xs i = some y := by
  obtain ⟨j, rfl⟩ := Int.eq_ofNat_of_zero_le h0
  have hj : j < xs.length := by omega
  exact ⟨xs[j], List.getElem_mem hj, atI_nat (List.getElem?_eq_getElem hj)⟩
def s_d_l_pick : SpD := fun ds P _ => ∃ xs : List D, ds = [.hand, .lst xs] ∧ 0 < xs.length ∧ xs.length ≤ 1000 ∧ ∀ y, y ∈ xs → P y
theorem len_d_l_pick : ∀ ds P er, s_d_l_pick ds P er → ds.length = 2 := by rintro _ _ _ ⟨_, rfl, _⟩; rfl
theorem n0_l_pick : ∀ ds P er, s_d_l_pick ds P er → s_d_l_pick ds P noX := fun _ _ _ h => h
theorem ok_l_pick {f : Addr} {fd : FuncData} (F : Fun K "_law_pick" "_law_pick" s_l_pick f fd) (T : Txt K mg cBadPeople cBadCount cBadTotal cBadCoin cBadUnlike) : FnOk P w K mg base CX0 3 f fd ps_l_pick (spOf (s_d_l_pick)) := by
  obtain ⟨f_l_draw, fd_l_draw, F_l_draw, m_l_draw, b_l_draw⟩ := T.d_l_draw
  have G_l_draw : FnOk P w K mg base CX0 2 f_l_draw fd_l_draw ps_l_draw (spOf (s_d_l_draw)) := ok_l_draw F_l_draw T
  refine fn0_d (k := 2) (Oe := []) F sc_l_pick [] _ (len_d_l_pick) (by decide) (fun cdv A outer sh H E hr => (s_one (s_ret (O2 := []) (fun _ z => nomatch z) (d_ix ix_seq l_ix (toV (d_var (i := 1) (by decide) (pv 1))) (toV (d_call (by decide) G_l_draw (hr.mono (by decide)) (by rfl) m_l_draw F_l_draw.kp b_l_draw .nil (fun _ _ _ => .nil) pass0A (a_cons (d_var (i := 0) (by decide) (pv 0)) (a_cons (d_callB call_len3 c_len (by rfl) T.n_len (by decide +kernel) (v_cons (toV (d_var (i := 1) (by decide) (pv 1))) v_nil)) a_nil)))) (fun _ _ => rfl))) (by decide))) ?_ n0_l_pick
  rintro ds P ⟨xs, rfl, h0, h1, q⟩
  simp only [fLenSet, fMul3, dTr, tru, dAsgT, gS, dMake2, dCBK, fMinD, dCallG, fRepr, fEqS, dSq, dAsg, dNx, dExp, dRet, dRetN, dIfS, dBk, dCt, dAppend, dInsert, dRemove, dPopAt, dSetAt, dRaise, dRaise0, dRaiseL, dVar, dC, dOp, dT, dChain, dNotT, dAndT, dOrT, dAndV, dOrV, dNotV, dIf, dNeg, dNil, dCons, dCB, dTup, dLst, dCall, dCallV, dCallF, dFld, dNoPart, dPart, dSl, dIsSeq, dBM, dTM, dXf, dYes, fSub, fDiv, fMod, fPow, fAdd, fCat, fMul, fRep, fLt, fLe, fGt, fGe, fIs, fIsNot, fIx, fSl, fSlL, fLen, fList, fTuple, fMax2, fMin2, fMax, fMin, fAbs, fInt, fIsi, fIsiN, fIsiC, gN, gT, gT0, gTC, diSeq, diRng1, diRng2, diEnum, dstart, De.off, exD, suiteD, List.map_cons, List.map_nil, List.length_cons, List.length_nil, Nat.reduceAdd, Nat.reduceSub, List.replicate_succ, List.replicate_zero, List.getElem?_cons_zero, List.getElem?_cons_succ, List.set_cons_zero, List.set_cons_succ, Option.some.injEq, exists_eq_left', exists_eq_left, exists_and_left, D.int.injEq, D.bl.injEq, D.lst.injEq, D.tup.injEq, D.str.injEq, D.exc.injEq, List.cons.injEq, and_true, true_and, List.nil_append, List.cons_append, List.append_nil, reduceCtorEq, false_and, exists_false, or_false, false_or, or_true, true_or, and_false, Int.reduceNeg, decide_eq_true_eq, Bool.not_eq_true', decide_eq_false_iff_not, and_assoc, Nat.zero_le, List.length_map, Int.zero_add, Int.reduceLT, Int.reduceLE, Int.reducePow, Int.reduceToNat, Int.reduceAdd, Int.reduceMul, Int.reduceSub, Nat.reduceLeDiff, fEq_ints, fNe_ints, fEq_lstsI, fNe_lstsI, fEq_tupsI, fNe_tupsI, noLA_ints, fSum_lst, fSum_tup, fSorted_lst, fSorted_tup, ↓reduceIte, Bool.false_eq_true, Bool.true_eq_false, false_implies, true_implies, implies_true, forall_const, Bool.not_true, Bool.not_false, s_d_l_draw, sDraw]
  refine ⟨by omega, by omega, fun d d0 d1 => ?_⟩
  obtain ⟨y, hy, hat⟩ := atI_in d0 d1
  exact ⟨y, hat, q y hy⟩
def s_d_l_is_whole : SpD := fun ds P _ => ∃ x, ds = [x] ∧ kn x = true ∧ P (.bl (isNum x))
theorem len_d_l_is_whole : ∀ ds P er, s_d_l_is_whole ds P er → ds.length = 1 := by rintro _ _ _ ⟨_, rfl, _⟩; rfl
theorem n0_l_is_whole : ∀ ds P er, s_d_l_is_whole ds P er → s_d_l_is_whole ds P noX := fun _ _ _ h => h
theorem ok_l_is_whole {f : Addr} {fd : FuncData} (F : Fun K "_law_is_whole" "_law_is_whole" s_l_is_whole f fd) (T : Txt K mg cBadPeople cBadCount cBadTotal cBadCoin cBadUnlike) : FnOk P w K mg base CX0 1 f fd ps_l_is_whole (spOf (s_d_l_is_whole)) := by
  refine fn0_d (k := 0) (Oe := []) F sc_l_is_whole [] _ (len_d_l_is_whole) (by decide) (fun cdv A outer sh H E hr => (s_one (s_ret (O2 := []) (fun _ z => nomatch z) (d_andV (d_callB call_isi c_isiInt (by rfl) T.n_isinstance (by decide +kernel) (v_cons (toV (d_var (i := 0) (by decide) (pv 0))) (v_cons (toV (d_c (y := .ty "int") (fun _ _ _ => .ty _) (pe_bltn (v := .ty "int") (by rfl) T.n_int (by decide +kernel) rfl))) v_nil))) (d_one (d_notV (d_callB call_isi c_isiBool (by rfl) T.n_isinstance (by decide +kernel) (v_cons (toV (d_var (i := 0) (by decide) (pv 0))) (v_cons (toV (d_c (y := .ty "bool") (fun _ _ _ => .ty _) (pe_bltn (v := .ty "bool") (by rfl) T.n_bool (by decide +kernel) rfl))) v_nil))))))) (by decide))) ?_ n0_l_is_whole
  rintro ds P ⟨x, rfl, hk, q⟩
  simp only [fLenSet, fMul3, dTr, tru, dAsgT, gS, dMake2, dCBK, fMinD, dCallG, fRepr, fEqS, dSq, dAsg, dNx, dExp, dRet, dRetN, dIfS, dBk, dCt, dAppend, dInsert, dRemove, dPopAt, dSetAt, dRaise, dRaise0, dRaiseL, dVar, dC, dOp, dT, dChain, dNotT, dAndT, dOrT, dAndV, dOrV, dNotV, dIf, dNeg, dNil, dCons, dCB, dTup, dLst, dCall, dCallV, dCallF, dFld, dNoPart, dPart, dSl, dIsSeq, dBM, dTM, dXf, dYes, fSub, fDiv, fMod, fPow, fAdd, fCat, fMul, fRep, fLt, fLe, fGt, fGe, fIs, fIsNot, fIx, fSl, fSlL, fLen, fList, fTuple, fMax2, fMin2, fMax, fMin, fAbs, fInt, fIsi, fIsiN, fIsiC, gN, gT, gT0, gTC, diSeq, diRng1, diRng2, diEnum, dstart, De.off, exD, suiteD, List.map_cons, List.map_nil, List.length_cons, List.length_nil, Nat.reduceAdd, Nat.reduceSub, List.replicate_succ, List.replicate_zero, List.getElem?_cons_zero, List.getElem?_cons_succ, List.set_cons_zero, List.set_cons_succ, Option.some.injEq, exists_eq_left', exists_eq_left, exists_and_left, D.int.injEq, D.bl.injEq, D.lst.injEq, D.tup.injEq, D.str.injEq, D.exc.injEq, List.cons.injEq, and_true, true_and, List.nil_append, List.cons_append, List.append_nil, reduceCtorEq, false_and, exists_false, or_false, false_or, or_true, true_or, and_false, Int.reduceNeg, decide_eq_true_eq, Bool.not_eq_true', decide_eq_false_iff_not, and_assoc, Nat.zero_le, List.length_map, Int.zero_add, Int.reduceLT, Int.reduceLE, Int.reducePow, Int.reduceToNat, Int.reduceAdd, Int.reduceMul, Int.reduceSub, Nat.reduceLeDiff, fEq_ints, fNe_ints, fEq_lstsI, fNe_lstsI, fEq_tupsI, fNe_tupsI, noLA_ints, fSum_lst, fSum_tup, fSorted_lst, fSorted_tup, ↓reduceIte, Bool.false_eq_true, Bool.true_eq_false, false_implies, true_implies, implies_true, forall_const, Bool.not_true, Bool.not_false]
  cases x <;> first | (cases hk; done) | exact ⟨false, rfl, q⟩ | exact ⟨true, rfl, _, rfl, q⟩
def s_d_l_is_coins : SpD := fun ds P _ => ∃ ms : List Int, ds = [tupI ms] ∧ ms.length ≤ 1000 ∧ ms.Pairwise (· ≤ ·) ∧ (∀ i, i ∈ ms → 1 ≤ i) ∧ P (.bl true)
theorem len_d_l_is_coins : ∀ ds P er, s_d_l_is_coins ds P er → ds.length = 1 := by rintro _ _ _ ⟨_, rfl, _⟩; rfl
theorem n0_l_is_coins : ∀ ds P er, s_d_l_is_coins ds P er → s_d_l_is_coins ds P noX := fun _ _ _ h => h
theorem ok_l_is_coins {f : Addr} {fd : FuncData} (F : Fun K "_law_is_coins" "_law_is_coins" s_l_is_coins f fd) (T : Txt K mg cBadPeople cBadCount cBadTotal cBadCoin cBadUnlike) : FnOk P w K mg base CX0 2 f fd ps_l_is_coins (spOf (s_d_l_is_coins)) := by
  obtain ⟨f_l_is_whole, fd_l_is_whole, F_l_is_whole, m_l_is_whole, b_l_is_whole⟩ := T.d_l_is_whole
  have G_l_is_whole : FnOk P w K mg base CX0 1 f_l_is_whole fd_l_is_whole ps_l_is_whole (spOf (s_d_l_is_whole)) := ok_l_is_whole F_l_is_whole T
  refine fn0_d (k := 1) (Oe := []) F sc_l_is_coins [] _ (len_d_l_is_coins) (by decide) (fun cdv A outer sh H E hr => (s_cons (s_if (PW.pt (d_or (d_not (d_test (d_callB call_isi c_isiTuple (by rfl) T.n_isinstance (by decide +kernel) (v_cons (toV (d_var (i := 0) (by decide) (pv 0))) (v_cons (toV (d_c (y := .ty "tuple") (fun _ _ _ => .ty _) (pe_bltn (v := .ty "tuple") (by rfl) T.n_tuple (by decide +kernel) rfl))) v_nil))))) (d_or1 (d_tcmp (op_neD hr.units) l_ne (toV (ofF (f_lc (ownv := [("_law_coin", 1)]) rfl sc_l_is_coins.nd (by decide) (pi_seq (d_var (i := 0) (by decide) (pv 0))) (li_seq (own := false)) (blkOk_by (N := nm_l_is_coins) (sc := defScope s_l_is_coins) (by decide +kernel)) (lg_name (i := 1) (by decide) (by decide)) (fun _ _ _ _ _ => (pg_name (i := 1) sc_l_is_coins.nd rfl (Or.inl rfl))) (fun _ _ _ _ _ => (ts_one (PW.pt (d_or (d_not (d_test (d_call (by decide) G_l_is_whole (hr.mono (by decide)) (by rfl) m_l_is_whole F_l_is_whole.kp b_l_is_whole .nil (fun _ _ _ => .nil) pass0A (a_cons (d_var (i := 1) (by decide) (pv 1)) a_nil)))) (d_or1 (d_tcmp op_lt l_lt (toV (d_var (i := 1) (by decide) (pv 1))) (toV (d_c (y := .int 1) (fun _ _ _ => .int _) pe_int)) (nomark _))))))) (fun _ _ _ _ _ => (d_var (i := 1) (by decide) (pv 1)))))) (toV (ofF (f_lst a_nil))) (nomark _))))) (s_one (s_ret (O2 := []) (fun _ z => nomatch z) (d_c (y := .bl false) (fun _ _ _ => .bl _) pe_bl)) (fun _ z => z)) (s_nil (fun _ z => z)))
      (s_one (s_ret (O2 := []) (fun _ z => nomatch z) (d_cmp (op_eqD hr.units) l_eq (toV (ofF (f_callTy call_list_of c_list (by rfl) T.n_list (by decide +kernel) (v_cons (toV (d_var (i := 0) (by decide) (pv 0))) v_nil)))) (toV (ofF (f_callB cr_sortedE c_sorted (by rfl) T.n_sorted (by decide +kernel) (v_cons (toV (ofF (f_callTy call_list_of c_list (by rfl) T.n_list (by decide +kernel) (v_cons (toV (d_var (i := 0) (by decide) (pv 0))) v_nil)))) v_nil)))) (nomark _))) (by decide)))) ?_ n0_l_is_coins
  rintro ds P ⟨ms, rfl, hl, hs, hb, q⟩
  have small : (1000 : Nat) < sizeLine := by decide
  refine sq_cut fun R eR => ?_
  simp only [fLenSet, fMul3, dTr, tru, dAsgT, gS, dMake2, dCBK, fMinD, dCallG, fRepr, fEqS, dSq, dAsg, dNx, dExp, dRet, dRetN, dIfS, dBk, dCt, dAppend, dInsert, dRemove, dPopAt, dSetAt, dRaise, dRaise0, dRaiseL, dVar, dC, dOp, dT, dChain, dNotT, dAndT, dOrT, dAndV, dOrV, dNotV, dIf, dNeg, dNil, dCons, dCB, dTup, dLst, dCall, dCallV, dCallF, dFld, dNoPart, dPart, dSl, dIsSeq, dBM, dTM, dXf, dYes, fSub, fDiv, fMod, fPow, fAdd, fCat, fMul, fRep, fLt, fLe, fGt, fGe, fIs, fIsNot, fIx, fSl, fSlL, fLen, fList, fTuple, fMax2, fMin2, fMax, fMin, fAbs, fInt, fIsi, fIsiN, fIsiC, gN, gT, gT0, gTC, diSeq, diRng1, diRng2, diEnum, dstart, De.off, exD, suiteD, List.map_cons, List.map_nil, List.length_cons, List.length_nil, Nat.reduceAdd, Nat.reduceSub, List.replicate_succ, List.replicate_zero, List.getElem?_cons_zero, List.getElem?_cons_succ, List.set_cons_zero, List.set_cons_succ, Option.some.injEq, exists_eq_left', exists_eq_left, exists_and_left, D.int.injEq, D.bl.injEq, D.lst.injEq, D.tup.injEq, D.str.injEq, D.exc.injEq, List.cons.injEq, and_true, true_and, List.nil_append, List.cons_append, List.append_nil, reduceCtorEq, false_and, exists_false, or_false, false_or, or_true, true_or, and_false, Int.reduceNeg, decide_eq_true_eq, Bool.not_eq_true', decide_eq_false_iff_not, and_assoc, Nat.zero_le, List.length_map, Int.zero_add, Int.reduceLT, Int.reduceLE, Int.reducePow, Int.reduceToNat, Int.reduceAdd, Int.reduceMul, Int.reduceSub, Nat.reduceLeDiff, fEq_ints, fNe_ints, fEq_lstsI, fNe_lstsI, fEq_tupsI, fNe_tupsI, noLA_ints, fSum_lst, fSum_tup, fSorted_lst, fSorted_tup, ↓reduceIte, Bool.false_eq_true, Bool.true_eq_false, false_implies, true_implies, implies_true, forall_const, Bool.not_true, Bool.not_false]
  refine ⟨true, rfl, ?_⟩
  simp only [fLenSet, fMul3, dTr, tru, dAsgT, gS, dMake2, dCBK, fMinD, dCallG, fRepr, fEqS, dSq, dAsg, dNx, dExp, dRet, dRetN, dIfS, dBk, dCt, dAppend, dInsert, dRemove, dPopAt, dSetAt, dRaise, dRaise0, dRaiseL, dVar, dC, dOp, dT, dChain, dNotT, dAndT, dOrT, dAndV, dOrV, dNotV, dIf, dNeg, dNil, dCons, dCB, dTup, dLst, dCall, dCallV, dCallF, dFld, dNoPart, dPart, dSl, dIsSeq, dBM, dTM, dXf, dYes, fSub, fDiv, fMod, fPow, fAdd, fCat, fMul, fRep, fLt, fLe, fGt, fGe, fIs, fIsNot, fIx, fSl, fSlL, fLen, fList, fTuple, fMax2, fMin2, fMax, fMin, fAbs, fInt, fIsi, fIsiN, fIsiC, gN, gT, gT0, gTC, diSeq, diRng1, diRng2, diEnum, dstart, De.off, exD, suiteD, List.map_cons, List.map_nil, List.length_cons, List.length_nil, Nat.reduceAdd, Nat.reduceSub, List.replicate_succ, List.replicate_zero, List.getElem?_cons_zero, List.getElem?_cons_succ, List.set_cons_zero, List.set_cons_succ, Option.some.injEq, exists_eq_left', exists_eq_left, exists_and_left, D.int.injEq, D.bl.injEq, D.lst.injEq, D.tup.injEq, D.str.injEq, D.exc.injEq, List.cons.injEq, and_true, true_and, List.nil_append, List.cons_append, List.append_nil, reduceCtorEq, false_and, exists_false, or_false, false_or, or_true, true_or, and_false, Int.reduceNeg, decide_eq_true_eq, Bool.not_eq_true', decide_eq_false_iff_not, and_assoc, Nat.zero_le, List.length_map, Int.zero_add, Int.reduceLT, Int.reduceLE, Int.reducePow, Int.reduceToNat, Int.reduceAdd, Int.reduceMul, Int.reduceSub, Nat.reduceLeDiff, fEq_ints, fNe_ints, fEq_lstsI, fNe_lstsI, fEq_tupsI, fNe_tupsI, noLA_ints, fSum_lst, fSum_tup, fSorted_lst, fSorted_tup, ↓reduceIte, Bool.false_eq_true, Bool.true_eq_false, false_implies, true_implies, implies_true, forall_const, Bool.not_true, Bool.not_false]
  refine lc_i (ms.map D.int) (fun k acc => acc = []) (fun Q q => by simp only [fLenSet, fMul3, dTr, tru, dAsgT, gS, dMake2, dCBK, fMinD, dCallG, fRepr, fEqS, dSq, dAsg, dNx, dExp, dRet, dRetN, dIfS, dBk, dCt, dAppend, dInsert, dRemove, dPopAt, dSetAt, dRaise, dRaise0, dRaiseL, dVar, dC, dOp, dT, dChain, dNotT, dAndT, dOrT, dAndV, dOrV, dNotV, dIf, dNeg, dNil, dCons, dCB, dTup, dLst, dCall, dCallV, dCallF, dFld, dNoPart, dPart, dSl, dIsSeq, dBM, dTM, dXf, dYes, fSub, fDiv, fMod, fPow, fAdd, fCat, fMul, fRep, fLt, fLe, fGt, fGe, fIs, fIsNot, fIx, fSl, fSlL, fLen, fList, fTuple, fMax2, fMin2, fMax, fMin, fAbs, fInt, fIsi, fIsiN, fIsiC, gN, gT, gT0, gTC, diSeq, diRng1, diRng2, diEnum, dstart, De.off, exD, suiteD, List.map_cons, List.map_nil, List.length_cons, List.length_nil, Nat.reduceAdd, Nat.reduceSub, List.replicate_succ, List.replicate_zero, List.getElem?_cons_zero, List.getElem?_cons_succ, List.set_cons_zero, List.set_cons_succ, Option.some.injEq, exists_eq_left', exists_eq_left, exists_and_left, D.int.injEq, D.bl.injEq, D.lst.injEq, D.tup.injEq, D.str.injEq, D.exc.injEq, List.cons.injEq, and_true, true_and, List.nil_append, List.cons_append, List.append_nil, reduceCtorEq, false_and, exists_false, or_false, false_or, or_true, true_or, and_false, Int.reduceNeg, decide_eq_true_eq, Bool.not_eq_true', decide_eq_false_iff_not, and_assoc, Nat.zero_le, List.length_map, Int.zero_add, Int.reduceLT, Int.reduceLE, Int.reducePow, Int.reduceToNat, Int.reduceAdd, Int.reduceMul, Int.reduceSub, Nat.reduceLeDiff, fEq_ints, fNe_ints, fEq_lstsI, fNe_lstsI, fEq_tupsI, fNe_tupsI, noLA_ints, fSum_lst, fSum_tup, fSorted_lst, fSorted_tup, ↓reduceIte, Bool.false_eq_true, Bool.true_eq_false, false_implies, true_implies, implies_true, forall_const, Bool.not_true, Bool.not_false]; exact ⟨_, rfl, q⟩) rfl ?_ ?_
  · rintro k acc x N hN rfl hx
    rw [List.getElem?_map] at hx
    obtain ⟨i, hi, rfl⟩ := Option.map_eq_some_iff.mp hx
    have := hb i (List.mem_of_getElem? hi)
    simp only [fLenSet, fMul3, dTr, tru, dAsgT, gS, dMake2, dCBK, fMinD, dCallG, fRepr, fEqS, dSq, dAsg, dNx, dExp, dRet, dRetN, dIfS, dBk, dCt, dAppend, dInsert, dRemove, dPopAt, dSetAt, dRaise, dRaise0, dRaiseL, dVar, dC, dOp, dT, dChain, dNotT, dAndT, dOrT, dAndV, dOrV, dNotV, dIf, dNeg, dNil, dCons, dCB, dTup, dLst, dCall, dCallV, dCallF, dFld, dNoPart, dPart, dSl, dIsSeq, dBM, dTM, dXf, dYes, fSub, fDiv, fMod, fPow, fAdd, fCat, fMul, fRep, fLt, fLe, fGt, fGe, fIs, fIsNot, fIx, fSl, fSlL, fLen, fList, fTuple, fMax2, fMin2, fMax, fMin, fAbs, fInt, fIsi, fIsiN, fIsiC, gN, gT, gT0, gTC, diSeq, diRng1, diRng2, diEnum, dstart, De.off, exD, suiteD, List.map_cons, List.map_nil, List.length_cons, List.length_nil, Nat.reduceAdd, Nat.reduceSub, List.replicate_succ, List.replicate_zero, List.getElem?_cons_zero, List.getElem?_cons_succ, List.set_cons_zero, List.set_cons_succ, Option.some.injEq, exists_eq_left', exists_eq_left, exists_and_left, D.int.injEq, D.bl.injEq, D.lst.injEq, D.tup.injEq, D.str.injEq, D.exc.injEq, List.cons.injEq, and_true, true_and, List.nil_append, List.cons_append, List.append_nil, reduceCtorEq, false_and, exists_false, or_false, false_or, or_true, true_or, and_false, Int.reduceNeg, decide_eq_true_eq, Bool.not_eq_true', decide_eq_false_iff_not, and_assoc, Nat.zero_le, List.length_map, Int.zero_add, Int.reduceLT, Int.reduceLE, Int.reducePow, Int.reduceToNat, Int.reduceAdd, Int.reduceMul, Int.reduceSub, Nat.reduceLeDiff, fEq_ints, fNe_ints, fEq_lstsI, fNe_lstsI, fEq_tupsI, fNe_tupsI, noLA_ints, fSum_lst, fSum_tup, fSorted_lst, fSorted_tup, ↓reduceIte, Bool.false_eq_true, Bool.true_eq_false, false_implies, true_implies, implies_true, forall_const, Bool.not_true, Bool.not_false, wipeD, s_d_l_is_whole]
    exact ⟨rfl, by rw [if_neg (show ¬ isNum (.int i) = false from fun z => nomatch z), if_neg (by omega)]; exact hN _ rfl⟩
  · rintro acc rfl
    refine (fNe_lstsI (ns := []) (ms := [])).mpr ?_
    simp only [fLenSet, fMul3, dTr, tru, dAsgT, gS, dMake2, dCBK, fMinD, dCallG, fRepr, fEqS, dSq, dAsg, dNx, dExp, dRet, dRetN, dIfS, dBk, dCt, dAppend, dInsert, dRemove, dPopAt, dSetAt, dRaise, dRaise0, dRaiseL, dVar, dC, dOp, dT, dChain, dNotT, dAndT, dOrT, dAndV, dOrV, dNotV, dIf, dNeg, dNil, dCons, dCB, dTup, dLst, dCall, dCallV, dCallF, dFld, dNoPart, dPart, dSl, dIsSeq, dBM, dTM, dXf, dYes, fSub, fDiv, fMod, fPow, fAdd, fCat, fMul, fRep, fLt, fLe, fGt, fGe, fIs, fIsNot, fIx, fSl, fSlL, fLen, fList, fTuple, fMax2, fMin2, fMax, fMin, fAbs, fInt, fIsi, fIsiN, fIsiC, gN, gT, gT0, gTC, diSeq, diRng1, diRng2, diEnum, dstart, De.off, exD, suiteD, List.map_cons, List.map_nil, List.length_cons, List.length_nil, Nat.reduceAdd, Nat.reduceSub, List.replicate_succ, List.replicate_zero, List.getElem?_cons_zero, List.getElem?_cons_succ, List.set_cons_zero, List.set_cons_succ, Option.some.injEq, exists_eq_left', exists_eq_left, exists_and_left, D.int.injEq, D.bl.injEq, D.lst.injEq, D.tup.injEq, D.str.injEq, D.exc.injEq, List.cons.injEq, and_true, true_and, List.nil_append, List.cons_append, List.append_nil, reduceCtorEq, false_and, exists_false, or_false, false_or, or_true, true_or, and_false, Int.reduceNeg, decide_eq_true_eq, Bool.not_eq_true', decide_eq_false_iff_not, and_assoc, Nat.zero_le, List.length_map, Int.zero_add, Int.reduceLT, Int.reduceLE, Int.reducePow, Int.reduceToNat, Int.reduceAdd, Int.reduceMul, Int.reduceSub, Nat.reduceLeDiff, fEq_ints, fNe_ints, fEq_lstsI, fNe_lstsI, fEq_tupsI, fNe_tupsI, noLA_ints, fSum_lst, fSum_tup, fSorted_lst, fSorted_tup, ↓reduceIte, Bool.false_eq_true, Bool.true_eq_false, false_implies, true_implies, implies_true, forall_const, Bool.not_true, Bool.not_false]
    subst eR
    simp only [fLenSet, fMul3, dTr, tru, dAsgT, gS, dMake2, dCBK, fMinD, dCallG, fRepr, fEqS, dSq, dAsg, dNx, dExp, dRet, dRetN, dIfS, dBk, dCt, dAppend, dInsert, dRemove, dPopAt, dSetAt, dRaise, dRaise0, dRaiseL, dVar, dC, dOp, dT, dChain, dNotT, dAndT, dOrT, dAndV, dOrV, dNotV, dIf, dNeg, dNil, dCons, dCB, dTup, dLst, dCall, dCallV, dCallF, dFld, dNoPart, dPart, dSl, dIsSeq, dBM, dTM, dXf, dYes, fSub, fDiv, fMod, fPow, fAdd, fCat, fMul, fRep, fLt, fLe, fGt, fGe, fIs, fIsNot, fIx, fSl, fSlL, fLen, fList, fTuple, fMax2, fMin2, fMax, fMin, fAbs, fInt, fIsi, fIsiN, fIsiC, gN, gT, gT0, gTC, diSeq, diRng1, diRng2, diEnum, dstart, De.off, exD, suiteD, List.map_cons, List.map_nil, List.length_cons, List.length_nil, Nat.reduceAdd, Nat.reduceSub, List.replicate_succ, List.replicate_zero, List.getElem?_cons_zero, List.getElem?_cons_succ, List.set_cons_zero, List.set_cons_succ, Option.some.injEq, exists_eq_left', exists_eq_left, exists_and_left, D.int.injEq, D.bl.injEq, D.lst.injEq, D.tup.injEq, D.str.injEq, D.exc.injEq, List.cons.injEq, and_true, true_and, List.nil_append, List.cons_append, List.append_nil, reduceCtorEq, false_and, exists_false, or_false, false_or, or_true, true_or, and_false, Int.reduceNeg, decide_eq_true_eq, Bool.not_eq_true', decide_eq_false_iff_not, and_assoc, Nat.zero_le, List.length_map, Int.zero_add, Int.reduceLT, Int.reduceLE, Int.reducePow, Int.reduceToNat, Int.reduceAdd, Int.reduceMul, Int.reduceSub, Nat.reduceLeDiff, fEq_ints, fNe_ints, fEq_lstsI, fNe_lstsI, fEq_tupsI, fNe_tupsI, noLA_ints, fSum_lst, fSum_tup, fSorted_lst, fSorted_tup, ↓reduceIte, Bool.false_eq_true, Bool.true_eq_false, false_implies, true_implies, implies_true, forall_const, Bool.not_true, Bool.not_false]
    rw [if_neg (by simp), srt_self hs, decide_eq_true rfl]
    exact q
def s_d_l_up : SpD := fun ds P _ => ∃ t p : Int, ds = [.int t, .int p] ∧ 0 < p ∧ p < 1000 ∧ P (.int (upI t p))
theorem len_d_l_up : ∀ ds P er, s_d_l_up ds P er → ds.length = 2 := by rintro _ _ _ ⟨_, _, rfl, _⟩; rfl
theorem n0_l_up : ∀ ds P er, s_d_l_up ds P er → s_d_l_up ds P noX := fun _ _ _ h => h
theorem ok_l_up {f : Addr} {fd : FuncData} (F : Fun K "_law_up" "_law_up" s_l_up f fd) (T : Txt K mg cBadPeople cBadCount cBadTotal cBadCoin cBadUnlike) : FnOk P w K mg base CX0 1 f fd ps_l_up (spOf (s_d_l_up)) := by
  refine fn0_d (k := 0) (Oe := []) F sc_l_up [] _ (len_d_l_up) (by decide) (fun cdv A outer sh H E hr => (s_one (s_ret (O2 := []) (fun _ z => nomatch z) (d_op op_fdivW l_div (toV (d_op op_sub l_sub (toV (d_op op_add4 l_add (toV (d_var (i := 0) (by decide) (pv 0))) (toV (d_var (i := 1) (by decide) (pv 1))))) (toV (d_c (y := .int 1) (fun _ _ _ => .int _) pe_int)))) (toV (d_var (i := 1) (by decide) (pv 1))))) (by decide))) ?_ n0_l_up
  rintro ds P ⟨t, p, rfl, p0, p1, q⟩
  simp only [fLenSet, fMul3, dTr, tru, dAsgT, gS, dMake2, dCBK, fMinD, dCallG, fRepr, fEqS, dSq, dAsg, dNx, dExp, dRet, dRetN, dIfS, dBk, dCt, dAppend, dInsert, dRemove, dPopAt, dSetAt, dRaise, dRaise0, dRaiseL, dVar, dC, dOp, dT, dChain, dNotT, dAndT, dOrT, dAndV, dOrV, dNotV, dIf, dNeg, dNil, dCons, dCB, dTup, dLst, dCall, dCallV, dCallF, dFld, dNoPart, dPart, dSl, dIsSeq, dBM, dTM, dXf, dYes, fSub, fDiv, fMod, fPow, fAdd, fCat, fMul, fRep, fLt, fLe, fGt, fGe, fIs, fIsNot, fIx, fSl, fSlL, fLen, fList, fTuple, fMax2, fMin2, fMax, fMin, fAbs, fInt, fIsi, fIsiN, fIsiC, gN, gT, gT0, gTC, diSeq, diRng1, diRng2, diEnum, dstart, De.off, exD, suiteD, List.map_cons, List.map_nil, List.length_cons, List.length_nil, Nat.reduceAdd, Nat.reduceSub, List.replicate_succ, List.replicate_zero, List.getElem?_cons_zero, List.getElem?_cons_succ, List.set_cons_zero, List.set_cons_succ, Option.some.injEq, exists_eq_left', exists_eq_left, exists_and_left, D.int.injEq, D.bl.injEq, D.lst.injEq, D.tup.injEq, D.str.injEq, D.exc.injEq, List.cons.injEq, and_true, true_and, List.nil_append, List.cons_append, List.append_nil, reduceCtorEq, false_and, exists_false, or_false, false_or, or_true, true_or, and_false, Int.reduceNeg, decide_eq_true_eq, Bool.not_eq_true', decide_eq_false_iff_not, and_assoc, Nat.zero_le, List.length_map, Int.zero_add, Int.reduceLT, Int.reduceLE, Int.reducePow, Int.reduceToNat, Int.reduceAdd, Int.reduceMul, Int.reduceSub, Nat.reduceLeDiff, fEq_ints, fNe_ints, fEq_lstsI, fNe_lstsI, fEq_tupsI, fNe_tupsI, noLA_ints, fSum_lst, fSum_tup, fSorted_lst, fSorted_tup, ↓reduceIte, Bool.false_eq_true, Bool.true_eq_false, false_implies, true_implies, implies_true, forall_const, Bool.not_true, Bool.not_false]
  exact ⟨p0, by omega, q⟩
def s_d_l_next : SpD := fun ds P _ => ∃ t p : Int, ds = [.int t, .int p] ∧ 2 ≤ p ∧ p ≤ 1000 ∧ P (.int (nxt p t))
theorem len_d_l_next : ∀ ds P er, s_d_l_next ds P er → ds.length = 2 := by rintro _ _ _ ⟨_, _, rfl, _⟩; rfl
theorem n0_l_next : ∀ ds P er, s_d_l_next ds P er → s_d_l_next ds P noX := fun _ _ _ h => h
theorem ok_l_next {f : Addr} {fd : FuncData} (F : Fun K "_law_next" "_law_next" s_l_next f fd) (T : Txt K mg cBadPeople cBadCount cBadTotal cBadCoin cBadUnlike) : FnOk P w K mg base CX0 1 f fd ps_l_next (spOf (s_d_l_next)) := by
  refine fn0_d (k := 0) (Oe := []) F sc_l_next [] _ (len_d_l_next) (by decide) (fun cdv A outer sh H E hr => (s_one (s_ret (O2 := []) (fun _ z => nomatch z) (d_op op_add4 l_add (toV (d_op op_fdivW l_div (toV (d_var (i := 0) (by decide) (pv 0))) (toV (d_op op_sub l_sub (toV (d_var (i := 1) (by decide) (pv 1))) (toV (d_c (y := .int 1) (fun _ _ _ => .int _) pe_int)))))) (toV (d_c (y := .int 1) (fun _ _ _ => .int _) pe_int)))) (by decide))) ?_ n0_l_next
  rintro ds P ⟨t, p, rfl, p0, p1, q⟩
  simp only [fLenSet, fMul3, dTr, tru, dAsgT, gS, dMake2, dCBK, fMinD, dCallG, fRepr, fEqS, dSq, dAsg, dNx, dExp, dRet, dRetN, dIfS, dBk, dCt, dAppend, dInsert, dRemove, dPopAt, dSetAt, dRaise, dRaise0, dRaiseL, dVar, dC, dOp, dT, dChain, dNotT, dAndT, dOrT, dAndV, dOrV, dNotV, dIf, dNeg, dNil, dCons, dCB, dTup, dLst, dCall, dCallV, dCallF, dFld, dNoPart, dPart, dSl, dIsSeq, dBM, dTM, dXf, dYes, fSub, fDiv, fMod, fPow, fAdd, fCat, fMul, fRep, fLt, fLe, fGt, fGe, fIs, fIsNot, fIx, fSl, fSlL, fLen, fList, fTuple, fMax2, fMin2, fMax, fMin, fAbs, fInt, fIsi, fIsiN, fIsiC, gN, gT, gT0, gTC, diSeq, diRng1, diRng2, diEnum, dstart, De.off, exD, suiteD, List.map_cons, List.map_nil, List.length_cons, List.length_nil, Nat.reduceAdd, Nat.reduceSub, List.replicate_succ, List.replicate_zero, List.getElem?_cons_zero, List.getElem?_cons_succ, List.set_cons_zero, List.set_cons_succ, Option.some.injEq, exists_eq_left', exists_eq_left, exists_and_left, D.int.injEq, D.bl.injEq, D.lst.injEq, D.tup.injEq, D.str.injEq, D.exc.injEq, List.cons.injEq, and_true, true_and, List.nil_append, List.cons_append, List.append_nil, reduceCtorEq, false_and, exists_false, or_false, false_or, or_true, true_or, and_false, Int.reduceNeg, decide_eq_true_eq, Bool.not_eq_true', decide_eq_false_iff_not, and_assoc, Nat.zero_le, List.length_map, Int.zero_add, Int.reduceLT, Int.reduceLE, Int.reducePow, Int.reduceToNat, Int.reduceAdd, Int.reduceMul, Int.reduceSub, Nat.reduceLeDiff, fEq_ints, fNe_ints, fEq_lstsI, fNe_lstsI, fEq_tupsI, fNe_tupsI, noLA_ints, fSum_lst, fSum_tup, fSorted_lst, fSorted_tup, ↓reduceIte, Bool.false_eq_true, Bool.true_eq_false, false_implies, true_implies, implies_true, forall_const, Bool.not_true, Bool.not_false]
  exact ⟨by omega, by omega, q⟩
def s_d_l_serves : SpD := fun ds P _ => ∃ (r : List Int) (p : Int), ds = [tupI r, .int p] ∧ r.length ≤ 1000 ∧ 2 ≤ p ∧ p ≤ 5 ∧ Row p r ∧ P (.bl true)
theorem len_d_l_serves : ∀ ds P er, s_d_l_serves ds P er → ds.length = 2 := by rintro _ _ _ ⟨_, _, rfl, _⟩; rfl
theorem n0_l_serves : ∀ ds P er, s_d_l_serves ds P er → s_d_l_serves ds P noX := fun _ _ _ h => h
theorem take_sum {ns : List Int} {k : Nat} {c : Int} (h : ns[k]? = some c) : (ns.take (k + 1)).sum = (ns.take k).sum + c := by
  rw [List.take_add_one, h, List.sum_append]
  simp
theorem ok_l_serves {f : Addr} {fd : FuncData} (F : Fun K "_law_serves" "_law_serves" s_l_serves f fd) (T : Txt K mg cBadPeople cBadCount cBadTotal cBadCoin cBadUnlike) : FnOk P w K mg base CX0 2 f fd ps_l_serves (spOf (s_d_l_serves)) := by
  obtain ⟨f_l_up, fd_l_up, F_l_up, m_l_up, b_l_up⟩ := T.d_l_up
  have G_l_up : FnOk P w K mg base CX0 1 f_l_up fd_l_up ps_l_up (spOf (s_d_l_up)) := ok_l_up F_l_up T
  refine fn0_d (k := 1) (Oe := []) F sc_l_serves [] _ (len_d_l_serves) (by decide) (fun cdv A outer sh H E hr => (s_cons (s_set (i := 2) (by decide) sc_l_serves.nd rfl (Or.inl rfl) (d_c (y := .int 0) (fun _ _ _ => .int _) pe_int))
      (s_cons (s_for (vs := [3]) PassesOwn.never rfl (by decide) (pi_seq (ofF (f_callB cr_sortedE c_sorted (by rfl) T.n_sorted (by decide +kernel) (v_cons (toV (ofF (f_callTy call_list_of c_list (by rfl) T.n_list (by decide +kernel) (v_cons (toV (d_var (i := 0) (by decide) (pv 0))) v_nil)))) v_nil)))) (li_seq (own := false)) (pg_name (i := 3) sc_l_serves.nd rfl (Or.inl rfl)) (lg_name (i := 3) (by decide) (by decide))
      (s_cons (s_set (i := 2) (by decide) sc_l_serves.nd rfl (Or.inl rfl) (d_op op_add4 l_add (toV (d_var (i := 2) (by decide) (pv 2))) (toV (d_var (i := 3) (by decide) (pv 3)))))
      (s_one (s_if (d_tcmp op_gt l_gt (toV (d_var (i := 3) (by decide) (pv 3))) (toV (d_call (by decide) G_l_up (hr.mono (by decide)) (by rfl) m_l_up F_l_up.kp b_l_up .nil (fun _ _ _ => .nil) pass0A (a_cons (d_var (i := 2) (by decide) (pv 2)) (a_cons (d_var (i := 1) (by decide) (pv 1)) a_nil)))) (nomark _)) (s_one (s_ret (O2 := []) (fun _ z => nomatch z) (d_c (y := .bl false) (fun _ _ _ => .bl _) pe_bl)) (fun _ z => z)) (s_nil (fun _ z => z))) (fun _ z => z))))
      (s_one (s_ret (O2 := []) (fun _ z => nomatch z) (d_c (y := .bl true) (fun _ _ _ => .bl _) pe_bl)) (by decide))))) ?_ n0_l_serves
  rintro ds P ⟨r, p, rfl, hl, p0, p1, hr, q⟩
  have small : (1000 : Nat) < sizeLine := by decide
  refine sq_cut fun R eR => ?_
  simp only [fLenSet, fMul3, dTr, tru, dAsgT, gS, dMake2, dCBK, fMinD, dCallG, fRepr, fEqS, dSq, dAsg, dNx, dExp, dRet, dRetN, dIfS, dBk, dCt, dAppend, dInsert, dRemove, dPopAt, dSetAt, dRaise, dRaise0, dRaiseL, dVar, dC, dOp, dT, dChain, dNotT, dAndT, dOrT, dAndV, dOrV, dNotV, dIf, dNeg, dNil, dCons, dCB, dTup, dLst, dCall, dCallV, dCallF, dFld, dNoPart, dPart, dSl, dIsSeq, dBM, dTM, dXf, dYes, fSub, fDiv, fMod, fPow, fAdd, fCat, fMul, fRep, fLt, fLe, fGt, fGe, fIs, fIsNot, fIx, fSl, fSlL, fLen, fList, fTuple, fMax2, fMin2, fMax, fMin, fAbs, fInt, fIsi, fIsiN, fIsiC, gN, gT, gT0, gTC, diSeq, diRng1, diRng2, diEnum, dstart, De.off, exD, suiteD, List.map_cons, List.map_nil, List.length_cons, List.length_nil, Nat.reduceAdd, Nat.reduceSub, List.replicate_succ, List.replicate_zero, List.getElem?_cons_zero, List.getElem?_cons_succ, List.set_cons_zero, List.set_cons_succ, Option.some.injEq, exists_eq_left', exists_eq_left, exists_and_left, D.int.injEq, D.bl.injEq, D.lst.injEq, D.tup.injEq, D.str.injEq, D.exc.injEq, List.cons.injEq, and_true, true_and, List.nil_append, List.cons_append, List.append_nil, reduceCtorEq, false_and, exists_false, or_false, false_or, or_true, true_or, and_false, Int.reduceNeg, decide_eq_true_eq, Bool.not_eq_true', decide_eq_false_iff_not, and_assoc, Nat.zero_le, List.length_map, Int.zero_add, Int.reduceLT, Int.reduceLE, Int.reducePow, Int.reduceToNat, Int.reduceAdd, Int.reduceMul, Int.reduceSub, Nat.reduceLeDiff, fEq_ints, fNe_ints, fEq_lstsI, fNe_lstsI, fEq_tupsI, fNe_tupsI, noLA_ints, fSum_lst, fSum_tup, fSorted_lst, fSorted_tup, ↓reduceIte, Bool.false_eq_true, Bool.true_eq_false, false_implies, true_implies, implies_true, forall_const, Bool.not_true, Bool.not_false]
  subst eR
  refine sq_cut fun R eR => ?_
  refine for_i (r.map D.int) (fun k δ => ∃ v : Option D, δ = [some (tupI r), some (.int p), some (.int (r.take k).sum), v]) (fun Q q => by simp only [fLenSet, fMul3, dTr, tru, dAsgT, gS, dMake2, dCBK, fMinD, dCallG, fRepr, fEqS, dSq, dAsg, dNx, dExp, dRet, dRetN, dIfS, dBk, dCt, dAppend, dInsert, dRemove, dPopAt, dSetAt, dRaise, dRaise0, dRaiseL, dVar, dC, dOp, dT, dChain, dNotT, dAndT, dOrT, dAndV, dOrV, dNotV, dIf, dNeg, dNil, dCons, dCB, dTup, dLst, dCall, dCallV, dCallF, dFld, dNoPart, dPart, dSl, dIsSeq, dBM, dTM, dXf, dYes, fSub, fDiv, fMod, fPow, fAdd, fCat, fMul, fRep, fLt, fLe, fGt, fGe, fIs, fIsNot, fIx, fSl, fSlL, fLen, fList, fTuple, fMax2, fMin2, fMax, fMin, fAbs, fInt, fIsi, fIsiN, fIsiC, gN, gT, gT0, gTC, diSeq, diRng1, diRng2, diEnum, dstart, De.off, exD, suiteD, List.map_cons, List.map_nil, List.length_cons, List.length_nil, Nat.reduceAdd, Nat.reduceSub, List.replicate_succ, List.replicate_zero, List.getElem?_cons_zero, List.getElem?_cons_succ, List.set_cons_zero, List.set_cons_succ, Option.some.injEq, exists_eq_left', exists_eq_left, exists_and_left, D.int.injEq, D.bl.injEq, D.lst.injEq, D.tup.injEq, D.str.injEq, D.exc.injEq, List.cons.injEq, and_true, true_and, List.nil_append, List.cons_append, List.append_nil, reduceCtorEq, false_and, exists_false, or_false, false_or, or_true, true_or, and_false, Int.reduceNeg, decide_eq_true_eq, Bool.not_eq_true', decide_eq_false_iff_not, and_assoc, Nat.zero_le, List.length_map, Int.zero_add, Int.reduceLT, Int.reduceLE, Int.reducePow, Int.reduceToNat, Int.reduceAdd, Int.reduceMul, Int.reduceSub, Nat.reduceLeDiff, fEq_ints, fNe_ints, fEq_lstsI, fNe_lstsI, fEq_tupsI, fNe_tupsI, noLA_ints, fSum_lst, fSum_tup, fSorted_lst, fSorted_tup, ↓reduceIte, Bool.false_eq_true, Bool.true_eq_false, false_implies, true_implies, implies_true, forall_const, Bool.not_true, Bool.not_false]; rw [srt_self hr.rise]; exact ⟨_, rfl, q⟩) ⟨_, rfl⟩ ?_ ?_
  · rintro k δ' x N hN ⟨v, rfl⟩ hx
    rw [List.getElem?_map] at hx
    obtain ⟨c, hc, rfl⟩ := Option.map_eq_some_iff.mp hx
    have hk : c ≤ nxt p (r.take k).sum := by
      have h2 : Row p (r.take (k + 1)) := by
        have := hr
        rw [← List.take_append_drop (k + 1) r] at this
        exact Grows.pre this
      rw [List.take_add_one, hc] at h2
      exact (Row.snoc.mp h2).2.2
    have := (up_nxt p0).mpr hk
    simp only [fLenSet, fMul3, dTr, tru, dAsgT, gS, dMake2, dCBK, fMinD, dCallG, fRepr, fEqS, dSq, dAsg, dNx, dExp, dRet, dRetN, dIfS, dBk, dCt, dAppend, dInsert, dRemove, dPopAt, dSetAt, dRaise, dRaise0, dRaiseL, dVar, dC, dOp, dT, dChain, dNotT, dAndT, dOrT, dAndV, dOrV, dNotV, dIf, dNeg, dNil, dCons, dCB, dTup, dLst, dCall, dCallV, dCallF, dFld, dNoPart, dPart, dSl, dIsSeq, dBM, dTM, dXf, dYes, fSub, fDiv, fMod, fPow, fAdd, fCat, fMul, fRep, fLt, fLe, fGt, fGe, fIs, fIsNot, fIx, fSl, fSlL, fLen, fList, fTuple, fMax2, fMin2, fMax, fMin, fAbs, fInt, fIsi, fIsiN, fIsiC, gN, gT, gT0, gTC, diSeq, diRng1, diRng2, diEnum, dstart, De.off, exD, suiteD, List.map_cons, List.map_nil, List.length_cons, List.length_nil, Nat.reduceAdd, Nat.reduceSub, List.replicate_succ, List.replicate_zero, List.getElem?_cons_zero, List.getElem?_cons_succ, List.set_cons_zero, List.set_cons_succ, Option.some.injEq, exists_eq_left', exists_eq_left, exists_and_left, D.int.injEq, D.bl.injEq, D.lst.injEq, D.tup.injEq, D.str.injEq, D.exc.injEq, List.cons.injEq, and_true, true_and, List.nil_append, List.cons_append, List.append_nil, reduceCtorEq, false_and, exists_false, or_false, false_or, or_true, true_or, and_false, Int.reduceNeg, decide_eq_true_eq, Bool.not_eq_true', decide_eq_false_iff_not, and_assoc, Nat.zero_le, List.length_map, Int.zero_add, Int.reduceLT, Int.reduceLE, Int.reducePow, Int.reduceToNat, Int.reduceAdd, Int.reduceMul, Int.reduceSub, Nat.reduceLeDiff, fEq_ints, fNe_ints, fEq_lstsI, fNe_lstsI, fEq_tupsI, fNe_tupsI, noLA_ints, fSum_lst, fSum_tup, fSorted_lst, fSorted_tup, ↓reduceIte, Bool.false_eq_true, Bool.true_eq_false, false_implies, true_implies, implies_true, forall_const, Bool.not_true, Bool.not_false, s_d_l_up]
    refine ⟨by omega, by omega, ?_⟩
    rw [if_neg (by omega)]
    exact hN _ ⟨_, by rw [take_sum hc]⟩
  · rintro δ' ⟨v, rfl⟩
    subst eR
    simp only [fLenSet, fMul3, dTr, tru, dAsgT, gS, dMake2, dCBK, fMinD, dCallG, fRepr, fEqS, dSq, dAsg, dNx, dExp, dRet, dRetN, dIfS, dBk, dCt, dAppend, dInsert, dRemove, dPopAt, dSetAt, dRaise, dRaise0, dRaiseL, dVar, dC, dOp, dT, dChain, dNotT, dAndT, dOrT, dAndV, dOrV, dNotV, dIf, dNeg, dNil, dCons, dCB, dTup, dLst, dCall, dCallV, dCallF, dFld, dNoPart, dPart, dSl, dIsSeq, dBM, dTM, dXf, dYes, fSub, fDiv, fMod, fPow, fAdd, fCat, fMul, fRep, fLt, fLe, fGt, fGe, fIs, fIsNot, fIx, fSl, fSlL, fLen, fList, fTuple, fMax2, fMin2, fMax, fMin, fAbs, fInt, fIsi, fIsiN, fIsiC, gN, gT, gT0, gTC, diSeq, diRng1, diRng2, diEnum, dstart, De.off, exD, suiteD, List.map_cons, List.map_nil, List.length_cons, List.length_nil, Nat.reduceAdd, Nat.reduceSub, List.replicate_succ, List.replicate_zero, List.getElem?_cons_zero, List.getElem?_cons_succ, List.set_cons_zero, List.set_cons_succ, Option.some.injEq, exists_eq_left', exists_eq_left, exists_and_left, D.int.injEq, D.bl.injEq, D.lst.injEq, D.tup.injEq, D.str.injEq, D.exc.injEq, List.cons.injEq, and_true, true_and, List.nil_append, List.cons_append, List.append_nil, reduceCtorEq, false_and, exists_false, or_false, false_or, or_true, true_or, and_false, Int.reduceNeg, decide_eq_true_eq, Bool.not_eq_true', decide_eq_false_iff_not, and_assoc, Nat.zero_le, List.length_map, Int.zero_add, Int.reduceLT, Int.reduceLE, Int.reducePow, Int.reduceToNat, Int.reduceAdd, Int.reduceMul, Int.reduceSub, Nat.reduceLeDiff, fEq_ints, fNe_ints, fEq_lstsI, fNe_lstsI, fEq_tupsI, fNe_tupsI, noLA_ints, fSum_lst, fSum_tup, fSorted_lst, fSorted_tup, ↓reduceIte, Bool.false_eq_true, Bool.true_eq_false, false_implies, true_implies, implies_true, forall_const, Bool.not_true, Bool.not_false]
    exact q
def s_d_l_great : SpD := fun ds P _ => ∃ (n : Nat) (p : Int), ds = [.int n, .int p] ∧ n ≤ 12 ∧ 2 ≤ p ∧ p ≤ 5 ∧ P (.int (gr p n))
theorem len_d_l_great : ∀ ds P er, s_d_l_great ds P er → ds.length = 2 := by rintro _ _ _ ⟨_, _, rfl, _⟩; rfl
theorem n0_l_great : ∀ ds P er, s_d_l_great ds P er → s_d_l_great ds P noX := fun _ _ _ h => h
theorem ok_l_great {f : Addr} {fd : FuncData} (F : Fun K "_law_great" "_law_great" s_l_great f fd) (T : Txt K mg cBadPeople cBadCount cBadTotal cBadCoin cBadUnlike) : FnOk P w K mg base CX0 2 f fd ps_l_great (spOf (s_d_l_great)) := by
  obtain ⟨f_l_next, fd_l_next, F_l_next, m_l_next, b_l_next⟩ := T.d_l_next
  have G_l_next : FnOk P w K mg base CX0 1 f_l_next fd_l_next ps_l_next (spOf (s_d_l_next)) := ok_l_next F_l_next T
  refine fn0_d (k := 1) (Oe := []) F sc_l_great [] _ (len_d_l_great) (by decide) (fun cdv A outer sh H E hr => (s_cons (s_set (i := 2) (by decide) sc_l_great.nd rfl (Or.inl rfl) (d_c (y := .int 0) (fun _ _ _ => .int _) pe_int))
      (s_cons (s_for (vs := [3]) PassesOwn.never rfl (by decide) (pi_range1 (by rfl) T.n_range (pa_cons (d_var (i := 0) (by decide) (pv 0)) pa_nil)) (li_rng1 (own := false)) (pg_name (i := 3) sc_l_great.nd rfl (Or.inl rfl)) (lg_name (i := 3) (by decide) (by decide))
      (s_one (s_set (i := 2) (by decide) sc_l_great.nd rfl (Or.inl rfl) (d_op op_add4 l_add (toV (d_var (i := 2) (by decide) (pv 2))) (toV (d_call (by decide) G_l_next (hr.mono (by decide)) (by rfl) m_l_next F_l_next.kp b_l_next .nil (fun _ _ _ => .nil) pass0A (a_cons (d_var (i := 2) (by decide) (pv 2)) (a_cons (d_var (i := 1) (by decide) (pv 1)) a_nil)))))) (fun _ z => z)))
      (s_one (s_ret (O2 := []) (fun _ z => nomatch z) (d_var (i := 2) (by decide) (pv 2))) (by decide))))) ?_ n0_l_great
  rintro ds P ⟨n, p, rfl, hn, p0, p1, q⟩
  refine sq_cut fun R eR => ?_
  simp only [fLenSet, fMul3, dTr, tru, dAsgT, gS, dMake2, dCBK, fMinD, dCallG, fRepr, fEqS, dSq, dAsg, dNx, dExp, dRet, dRetN, dIfS, dBk, dCt, dAppend, dInsert, dRemove, dPopAt, dSetAt, dRaise, dRaise0, dRaiseL, dVar, dC, dOp, dT, dChain, dNotT, dAndT, dOrT, dAndV, dOrV, dNotV, dIf, dNeg, dNil, dCons, dCB, dTup, dLst, dCall, dCallV, dCallF, dFld, dNoPart, dPart, dSl, dIsSeq, dBM, dTM, dXf, dYes, fSub, fDiv, fMod, fPow, fAdd, fCat, fMul, fRep, fLt, fLe, fGt, fGe, fIs, fIsNot, fIx, fSl, fSlL, fLen, fList, fTuple, fMax2, fMin2, fMax, fMin, fAbs, fInt, fIsi, fIsiN, fIsiC, gN, gT, gT0, gTC, diSeq, diRng1, diRng2, diEnum, dstart, De.off, exD, suiteD, List.map_cons, List.map_nil, List.length_cons, List.length_nil, Nat.reduceAdd, Nat.reduceSub, List.replicate_succ, List.replicate_zero, List.getElem?_cons_zero, List.getElem?_cons_succ, List.set_cons_zero, List.set_cons_succ, Option.some.injEq, exists_eq_left', exists_eq_left, exists_and_left, D.int.injEq, D.bl.injEq, D.lst.injEq, D.tup.injEq, D.str.injEq, D.exc.injEq, List.cons.injEq, and_true, true_and, List.nil_append, List.cons_append, List.append_nil, reduceCtorEq, false_and, exists_false, or_false, false_or, or_true, true_or, and_false, Int.reduceNeg, decide_eq_true_eq, Bool.not_eq_true', decide_eq_false_iff_not, and_assoc, Nat.zero_le, List.length_map, Int.zero_add, Int.reduceLT, Int.reduceLE, Int.reducePow, Int.reduceToNat, Int.reduceAdd, Int.reduceMul, Int.reduceSub, Nat.reduceLeDiff, fEq_ints, fNe_ints, fEq_lstsI, fNe_lstsI, fEq_tupsI, fNe_tupsI, noLA_ints, fSum_lst, fSum_tup, fSorted_lst, fSorted_tup, ↓reduceIte, Bool.false_eq_true, Bool.true_eq_false, false_implies, true_implies, implies_true, forall_const, Bool.not_true, Bool.not_false]
  subst eR
  refine sq_cut fun R eR => ?_
  refine for_i (rangeD 0 n) (fun k δ => ∃ v : Option D, δ = [some (.int n), some (.int p), some (.int (gr p k)), v]) (fun Q q => by simp only [fLenSet, fMul3, dTr, tru, dAsgT, gS, dMake2, dCBK, fMinD, dCallG, fRepr, fEqS, dSq, dAsg, dNx, dExp, dRet, dRetN, dIfS, dBk, dCt, dAppend, dInsert, dRemove, dPopAt, dSetAt, dRaise, dRaise0, dRaiseL, dVar, dC, dOp, dT, dChain, dNotT, dAndT, dOrT, dAndV, dOrV, dNotV, dIf, dNeg, dNil, dCons, dCB, dTup, dLst, dCall, dCallV, dCallF, dFld, dNoPart, dPart, dSl, dIsSeq, dBM, dTM, dXf, dYes, fSub, fDiv, fMod, fPow, fAdd, fCat, fMul, fRep, fLt, fLe, fGt, fGe, fIs, fIsNot, fIx, fSl, fSlL, fLen, fList, fTuple, fMax2, fMin2, fMax, fMin, fAbs, fInt, fIsi, fIsiN, fIsiC, gN, gT, gT0, gTC, diSeq, diRng1, diRng2, diEnum, dstart, De.off, exD, suiteD, List.map_cons, List.map_nil, List.length_cons, List.length_nil, Nat.reduceAdd, Nat.reduceSub, List.replicate_succ, List.replicate_zero, List.getElem?_cons_zero, List.getElem?_cons_succ, List.set_cons_zero, List.set_cons_succ, Option.some.injEq, exists_eq_left', exists_eq_left, exists_and_left, D.int.injEq, D.bl.injEq, D.lst.injEq, D.tup.injEq, D.str.injEq, D.exc.injEq, List.cons.injEq, and_true, true_and, List.nil_append, List.cons_append, List.append_nil, reduceCtorEq, false_and, exists_false, or_false, false_or, or_true, true_or, and_false, Int.reduceNeg, decide_eq_true_eq, Bool.not_eq_true', decide_eq_false_iff_not, and_assoc, Nat.zero_le, List.length_map, Int.zero_add, Int.reduceLT, Int.reduceLE, Int.reducePow, Int.reduceToNat, Int.reduceAdd, Int.reduceMul, Int.reduceSub, Nat.reduceLeDiff, fEq_ints, fNe_ints, fEq_lstsI, fNe_lstsI, fEq_tupsI, fNe_tupsI, noLA_ints, fSum_lst, fSum_tup, fSorted_lst, fSorted_tup, ↓reduceIte, Bool.false_eq_true, Bool.true_eq_false, false_implies, true_implies, implies_true, forall_const, Bool.not_true, Bool.not_false]; exact ⟨by omega, by omega, q⟩) ⟨_, rfl⟩ ?_ ?_
  · rintro k δ' x N hN ⟨v, rfl⟩ hx
    rw [rangeD_get] at hx
    split at hx <;> cases hx
    simp only [fLenSet, fMul3, dTr, tru, dAsgT, gS, dMake2, dCBK, fMinD, dCallG, fRepr, fEqS, dSq, dAsg, dNx, dExp, dRet, dRetN, dIfS, dBk, dCt, dAppend, dInsert, dRemove, dPopAt, dSetAt, dRaise, dRaise0, dRaiseL, dVar, dC, dOp, dT, dChain, dNotT, dAndT, dOrT, dAndV, dOrV, dNotV, dIf, dNeg, dNil, dCons, dCB, dTup, dLst, dCall, dCallV, dCallF, dFld, dNoPart, dPart, dSl, dIsSeq, dBM, dTM, dXf, dYes, fSub, fDiv, fMod, fPow, fAdd, fCat, fMul, fRep, fLt, fLe, fGt, fGe, fIs, fIsNot, fIx, fSl, fSlL, fLen, fList, fTuple, fMax2, fMin2, fMax, fMin, fAbs, fInt, fIsi, fIsiN, fIsiC, gN, gT, gT0, gTC, diSeq, diRng1, diRng2, diEnum, dstart, De.off, exD, suiteD, List.map_cons, List.map_nil, List.length_cons, List.length_nil, Nat.reduceAdd, Nat.reduceSub, List.replicate_succ, List.replicate_zero, List.getElem?_cons_zero, List.getElem?_cons_succ, List.set_cons_zero, List.set_cons_succ, Option.some.injEq, exists_eq_left', exists_eq_left, exists_and_left, D.int.injEq, D.bl.injEq, D.lst.injEq, D.tup.injEq, D.str.injEq, D.exc.injEq, List.cons.injEq, and_true, true_and, List.nil_append, List.cons_append, List.append_nil, reduceCtorEq, false_and, exists_false, or_false, false_or, or_true, true_or, and_false, Int.reduceNeg, decide_eq_true_eq, Bool.not_eq_true', decide_eq_false_iff_not, and_assoc, Nat.zero_le, List.length_map, Int.zero_add, Int.reduceLT, Int.reduceLE, Int.reducePow, Int.reduceToNat, Int.reduceAdd, Int.reduceMul, Int.reduceSub, Nat.reduceLeDiff, fEq_ints, fNe_ints, fEq_lstsI, fNe_lstsI, fEq_tupsI, fNe_tupsI, noLA_ints, fSum_lst, fSum_tup, fSorted_lst, fSorted_tup, ↓reduceIte, Bool.false_eq_true, Bool.true_eq_false, false_implies, true_implies, implies_true, forall_const, Bool.not_true, Bool.not_false, s_d_l_next]
    exact ⟨p0, by omega, hN _ ⟨_, rfl⟩⟩
  · rintro δ' ⟨v, rfl⟩
    rw [rangeD_length]
    subst eR
    simp only [fLenSet, fMul3, dTr, tru, dAsgT, gS, dMake2, dCBK, fMinD, dCallG, fRepr, fEqS, dSq, dAsg, dNx, dExp, dRet, dRetN, dIfS, dBk, dCt, dAppend, dInsert, dRemove, dPopAt, dSetAt, dRaise, dRaise0, dRaiseL, dVar, dC, dOp, dT, dChain, dNotT, dAndT, dOrT, dAndV, dOrV, dNotV, dIf, dNeg, dNil, dCons, dCB, dTup, dLst, dCall, dCallV, dCallF, dFld, dNoPart, dPart, dSl, dIsSeq, dBM, dTM, dXf, dYes, fSub, fDiv, fMod, fPow, fAdd, fCat, fMul, fRep, fLt, fLe, fGt, fGe, fIs, fIsNot, fIx, fSl, fSlL, fLen, fList, fTuple, fMax2, fMin2, fMax, fMin, fAbs, fInt, fIsi, fIsiN, fIsiC, gN, gT, gT0, gTC, diSeq, diRng1, diRng2, diEnum, dstart, De.off, exD, suiteD, List.map_cons, List.map_nil, List.length_cons, List.length_nil, Nat.reduceAdd, Nat.reduceSub, List.replicate_succ, List.replicate_zero, List.getElem?_cons_zero, List.getElem?_cons_succ, List.set_cons_zero, List.set_cons_succ, Option.some.injEq, exists_eq_left', exists_eq_left, exists_and_left, D.int.injEq, D.bl.injEq, D.lst.injEq, D.tup.injEq, D.str.injEq, D.exc.injEq, List.cons.injEq, and_true, true_and, List.nil_append, List.cons_append, List.append_nil, reduceCtorEq, false_and, exists_false, or_false, false_or, or_true, true_or, and_false, Int.reduceNeg, decide_eq_true_eq, Bool.not_eq_true', decide_eq_false_iff_not, and_assoc, Nat.zero_le, List.length_map, Int.zero_add, Int.reduceLT, Int.reduceLE, Int.reducePow, Int.reduceToNat, Int.reduceAdd, Int.reduceMul, Int.reduceSub, Nat.reduceLeDiff, fEq_ints, fNe_ints, fEq_lstsI, fNe_lstsI, fEq_tupsI, fNe_tupsI, noLA_ints, fSum_lst, fSum_tup, fSorted_lst, fSorted_tup, ↓reduceIte, Bool.false_eq_true, Bool.true_eq_false, false_implies, true_implies, implies_true, forall_const, Bool.not_true, Bool.not_false]
    exact q
def s_d_l_fewest : SpD := fun ds P _ => ∃ (t p : Int), ds = [.int t, .int p] ∧ 2 ≤ p ∧ p ≤ 5 ∧ t ≤ gr p 399 ∧ ∀ k : Nat, IsFew p t k → P (.int k)
theorem len_d_l_fewest : ∀ ds P er, s_d_l_fewest ds P er → ds.length = 2 := by rintro _ _ _ ⟨_, _, rfl, _⟩; rfl
theorem n0_l_fewest : ∀ ds P er, s_d_l_fewest ds P er → s_d_l_fewest ds P noX := fun _ _ _ h => h
theorem ok_l_fewest {f : Addr} {fd : FuncData} (F : Fun K "_law_fewest" "_law_fewest" s_l_fewest f fd) (T : Txt K mg cBadPeople cBadCount cBadTotal cBadCoin cBadUnlike) : FnOk P w K mg base CX0 2 f fd ps_l_fewest (spOf (s_d_l_fewest)) := by
  obtain ⟨f_l_next, fd_l_next, F_l_next, m_l_next, b_l_next⟩ := T.d_l_next
  have G_l_next : FnOk P w K mg base CX0 1 f_l_next fd_l_next ps_l_next (spOf (s_d_l_next)) := ok_l_next F_l_next T
  refine fn0_d (k := 1) (Oe := []) F sc_l_fewest [] _ (len_d_l_fewest) (by decide) (fun cdv A outer sh H E hr => (s_cons (s_set (i := 2) (by decide) sc_l_fewest.nd rfl (Or.inl rfl) (d_c (y := .int 0) (fun _ _ _ => .int _) pe_int))
      (s_cons (s_for (vs := [3]) PassesOwn.never rfl (by decide) (pi_range1 (by rfl) T.n_range (pa_cons (d_c (y := .int 400) (fun _ _ _ => .int _) pe_int) pa_nil)) (li_rng1 (own := false)) (pg_name (i := 3) sc_l_fewest.nd rfl (Or.inl rfl)) (lg_name (i := 3) (by decide) (by decide))
      (s_cons (s_if (d_tcmp op_ge l_ge (toV (d_var (i := 2) (by decide) (pv 2))) (toV (d_var (i := 0) (by decide) (pv 0))) (nomark _)) (s_one (s_ret (O2 := []) (fun _ z => nomatch z) (d_var (i := 3) (by decide) (pv 3))) (fun _ z => z)) (s_nil (fun _ z => z)))
      (s_one (s_set (i := 2) (by decide) sc_l_fewest.nd rfl (Or.inl rfl) (d_op op_add4 l_add (toV (d_var (i := 2) (by decide) (pv 2))) (toV (d_call (by decide) G_l_next (hr.mono (by decide)) (by rfl) m_l_next F_l_next.kp b_l_next .nil (fun _ _ _ => .nil) pass0A (a_cons (d_var (i := 2) (by decide) (pv 2)) (a_cons (d_var (i := 1) (by decide) (pv 1)) a_nil)))))) (fun _ z => z))))
      (s_one (s_ret (O2 := []) (fun _ z => nomatch z) (d_c (y := .int 400) (fun _ _ _ => .int _) pe_int)) (by decide))))) ?_ n0_l_fewest
  rintro ds P ⟨t, p, rfl, p0, p1, ht, q⟩
  refine sq_cut fun R eR => ?_
  simp only [fLenSet, fMul3, dTr, tru, dAsgT, gS, dMake2, dCBK, fMinD, dCallG, fRepr, fEqS, dSq, dAsg, dNx, dExp, dRet, dRetN, dIfS, dBk, dCt, dAppend, dInsert, dRemove, dPopAt, dSetAt, dRaise, dRaise0, dRaiseL, dVar, dC, dOp, dT, dChain, dNotT, dAndT, dOrT, dAndV, dOrV, dNotV, dIf, dNeg, dNil, dCons, dCB, dTup, dLst, dCall, dCallV, dCallF, dFld, dNoPart, dPart, dSl, dIsSeq, dBM, dTM, dXf, dYes, fSub, fDiv, fMod, fPow, fAdd, fCat, fMul, fRep, fLt, fLe, fGt, fGe, fIs, fIsNot, fIx, fSl, fSlL, fLen, fList, fTuple, fMax2, fMin2, fMax, fMin, fAbs, fInt, fIsi, fIsiN, fIsiC, gN, gT, gT0, gTC, diSeq, diRng1, diRng2, diEnum, dstart, De.off, exD, suiteD, List.map_cons, List.map_nil, List.length_cons, List.length_nil, Nat.reduceAdd, Nat.reduceSub, List.replicate_succ, List.replicate_zero, List.getElem?_cons_zero, List.getElem?_cons_succ, List.set_cons_zero, List.set_cons_succ, Option.some.injEq, exists_eq_left', exists_eq_left, exists_and_left, D.int.injEq, D.bl.injEq, D.lst.injEq, D.tup.injEq, D.str.injEq, D.exc.injEq, List.cons.injEq, and_true, true_and, List.nil_append, List.cons_append, List.append_nil, reduceCtorEq, false_and, exists_false, or_false, false_or, or_true, true_or, and_false, Int.reduceNeg, decide_eq_true_eq, Bool.not_eq_true', decide_eq_false_iff_not, and_assoc, Nat.zero_le, List.length_map, Int.zero_add, Int.reduceLT, Int.reduceLE, Int.reducePow, Int.reduceToNat, Int.reduceAdd, Int.reduceMul, Int.reduceSub, Nat.reduceLeDiff, fEq_ints, fNe_ints, fEq_lstsI, fNe_lstsI, fEq_tupsI, fNe_tupsI, noLA_ints, fSum_lst, fSum_tup, fSorted_lst, fSorted_tup, ↓reduceIte, Bool.false_eq_true, Bool.true_eq_false, false_implies, true_implies, implies_true, forall_const, Bool.not_true, Bool.not_false]
  subst eR
  refine sq_cut fun R eR => ?_
  refine for_i (rangeD 0 400) (fun k δ => (∃ v : Option D, δ = [some (.int t), some (.int p), some (.int (gr p k)), v]) ∧ ∀ j, j < k → gr p j < t) (fun Q q => by simp only [fLenSet, fMul3, dTr, tru, dAsgT, gS, dMake2, dCBK, fMinD, dCallG, fRepr, fEqS, dSq, dAsg, dNx, dExp, dRet, dRetN, dIfS, dBk, dCt, dAppend, dInsert, dRemove, dPopAt, dSetAt, dRaise, dRaise0, dRaiseL, dVar, dC, dOp, dT, dChain, dNotT, dAndT, dOrT, dAndV, dOrV, dNotV, dIf, dNeg, dNil, dCons, dCB, dTup, dLst, dCall, dCallV, dCallF, dFld, dNoPart, dPart, dSl, dIsSeq, dBM, dTM, dXf, dYes, fSub, fDiv, fMod, fPow, fAdd, fCat, fMul, fRep, fLt, fLe, fGt, fGe, fIs, fIsNot, fIx, fSl, fSlL, fLen, fList, fTuple, fMax2, fMin2, fMax, fMin, fAbs, fInt, fIsi, fIsiN, fIsiC, gN, gT, gT0, gTC, diSeq, diRng1, diRng2, diEnum, dstart, De.off, exD, suiteD, List.map_cons, List.map_nil, List.length_cons, List.length_nil, Nat.reduceAdd, Nat.reduceSub, List.replicate_succ, List.replicate_zero, List.getElem?_cons_zero, List.getElem?_cons_succ, List.set_cons_zero, List.set_cons_succ, Option.some.injEq, exists_eq_left', exists_eq_left, exists_and_left, D.int.injEq, D.bl.injEq, D.lst.injEq, D.tup.injEq, D.str.injEq, D.exc.injEq, List.cons.injEq, and_true, true_and, List.nil_append, List.cons_append, List.append_nil, reduceCtorEq, false_and, exists_false, or_false, false_or, or_true, true_or, and_false, Int.reduceNeg, decide_eq_true_eq, Bool.not_eq_true', decide_eq_false_iff_not, and_assoc, Nat.zero_le, List.length_map, Int.zero_add, Int.reduceLT, Int.reduceLE, Int.reducePow, Int.reduceToNat, Int.reduceAdd, Int.reduceMul, Int.reduceSub, Nat.reduceLeDiff, fEq_ints, fNe_ints, fEq_lstsI, fNe_lstsI, fEq_tupsI, fNe_tupsI, noLA_ints, fSum_lst, fSum_tup, fSorted_lst, fSorted_tup, ↓reduceIte, Bool.false_eq_true, Bool.true_eq_false, false_implies, true_implies, implies_true, forall_const, Bool.not_true, Bool.not_false]; exact q) ⟨⟨_, rfl⟩, fun j z => absurd z (Nat.not_lt_zero j)⟩ ?_ ?_
  · rintro k δ' x N hN ⟨⟨v, rfl⟩, hj⟩ hx
    rw [rangeD_get] at hx
    split at hx <;> cases hx
    simp only [gN, gT, gT0, gTC, wipeD, D.tup.injEq, D.lst.injEq, List.length_cons, List.length_nil, Nat.reduceAdd, List.cons.injEq, exists_eq_left', exists_eq_left, exists_and_left, and_true, true_and, and_assoc, List.set_cons_zero, List.set_cons_succ, reduceCtorEq, Int.zero_add]
    refine sq_cut fun R2 eR2 => ?_
    simp only [fLenSet, fMul3, dTr, tru, dAsgT, gS, dMake2, dCBK, fMinD, dCallG, fRepr, fEqS, dSq, dAsg, dNx, dExp, dRet, dRetN, dIfS, dBk, dCt, dAppend, dInsert, dRemove, dPopAt, dSetAt, dRaise, dRaise0, dRaiseL, dVar, dC, dOp, dT, dChain, dNotT, dAndT, dOrT, dAndV, dOrV, dNotV, dIf, dNeg, dNil, dCons, dCB, dTup, dLst, dCall, dCallV, dCallF, dFld, dNoPart, dPart, dSl, dIsSeq, dBM, dTM, dXf, dYes, fSub, fDiv, fMod, fPow, fAdd, fCat, fMul, fRep, fLt, fLe, fGt, fGe, fIs, fIsNot, fIx, fSl, fSlL, fLen, fList, fTuple, fMax2, fMin2, fMax, fMin, fAbs, fInt, fIsi, fIsiN, fIsiC, gN, gT, gT0, gTC, diSeq, diRng1, diRng2, diEnum, dstart, De.off, exD, suiteD, List.map_cons, List.map_nil, List.length_cons, List.length_nil, Nat.reduceAdd, Nat.reduceSub, List.replicate_succ, List.replicate_zero, List.getElem?_cons_zero, List.getElem?_cons_succ, List.set_cons_zero, List.set_cons_succ, Option.some.injEq, exists_eq_left', exists_eq_left, exists_and_left, D.int.injEq, D.bl.injEq, D.lst.injEq, D.tup.injEq, D.str.injEq, D.exc.injEq, List.cons.injEq, and_true, true_and, List.nil_append, List.cons_append, List.append_nil, reduceCtorEq, false_and, exists_false, or_false, false_or, or_true, true_or, and_false, Int.reduceNeg, decide_eq_true_eq, Bool.not_eq_true', decide_eq_false_iff_not, and_assoc, Nat.zero_le, List.length_map, Int.zero_add, Int.reduceLT, Int.reduceLE, Int.reducePow, Int.reduceToNat, Int.reduceAdd, Int.reduceMul, Int.reduceSub, Nat.reduceLeDiff, fEq_ints, fNe_ints, fEq_lstsI, fNe_lstsI, fEq_tupsI, fNe_tupsI, noLA_ints, fSum_lst, fSum_tup, fSorted_lst, fSorted_tup, ↓reduceIte, Bool.false_eq_true, Bool.true_eq_false, false_implies, true_implies, implies_true, forall_const, Bool.not_true, Bool.not_false]
    split
    · rename_i h
      exact q k ⟨h, hj⟩
    · rename_i h
      subst eR2
      simp only [fLenSet, fMul3, dTr, tru, dAsgT, gS, dMake2, dCBK, fMinD, dCallG, fRepr, fEqS, dSq, dAsg, dNx, dExp, dRet, dRetN, dIfS, dBk, dCt, dAppend, dInsert, dRemove, dPopAt, dSetAt, dRaise, dRaise0, dRaiseL, dVar, dC, dOp, dT, dChain, dNotT, dAndT, dOrT, dAndV, dOrV, dNotV, dIf, dNeg, dNil, dCons, dCB, dTup, dLst, dCall, dCallV, dCallF, dFld, dNoPart, dPart, dSl, dIsSeq, dBM, dTM, dXf, dYes, fSub, fDiv, fMod, fPow, fAdd, fCat, fMul, fRep, fLt, fLe, fGt, fGe, fIs, fIsNot, fIx, fSl, fSlL, fLen, fList, fTuple, fMax2, fMin2, fMax, fMin, fAbs, fInt, fIsi, fIsiN, fIsiC, gN, gT, gT0, gTC, diSeq, diRng1, diRng2, diEnum, dstart, De.off, exD, suiteD, List.map_cons, List.map_nil, List.length_cons, List.length_nil, Nat.reduceAdd, Nat.reduceSub, List.replicate_succ, List.replicate_zero, List.getElem?_cons_zero, List.getElem?_cons_succ, List.set_cons_zero, List.set_cons_succ, Option.some.injEq, exists_eq_left', exists_eq_left, exists_and_left, D.int.injEq, D.bl.injEq, D.lst.injEq, D.tup.injEq, D.str.injEq, D.exc.injEq, List.cons.injEq, and_true, true_and, List.nil_append, List.cons_append, List.append_nil, reduceCtorEq, false_and, exists_false, or_false, false_or, or_true, true_or, and_false, Int.reduceNeg, decide_eq_true_eq, Bool.not_eq_true', decide_eq_false_iff_not, and_assoc, Nat.zero_le, List.length_map, Int.zero_add, Int.reduceLT, Int.reduceLE, Int.reducePow, Int.reduceToNat, Int.reduceAdd, Int.reduceMul, Int.reduceSub, Nat.reduceLeDiff, fEq_ints, fNe_ints, fEq_lstsI, fNe_lstsI, fEq_tupsI, fNe_tupsI, noLA_ints, fSum_lst, fSum_tup, fSorted_lst, fSorted_tup, ↓reduceIte, Bool.false_eq_true, Bool.true_eq_false, false_implies, true_implies, implies_true, forall_const, Bool.not_true, Bool.not_false, s_d_l_next]
      refine ⟨p0, by omega, hN _ ⟨⟨_, rfl⟩, fun j z => ?_⟩⟩
      by_cases e : j = k
      · subst e; omega
      · exact hj j (by omega)
  · rintro δ' ⟨⟨v, rfl⟩, hj⟩
    rw [rangeD_length] at hj
    have := hj 399 (by decide)
    omega

end
end My
set_option Elab.async false
set_option linter.all false
set_option maxRecDepth 100000
set_option maxHeartbeats 4000000
namespace My
open PySem PySem.Spec PyProof.Rows L2 Gen DL
section
variable {P : Program} {w : World} {K : PySem.W.Frag} {mg : Str → Option Value} {base : Heap} { cBadPeople cBadCount cBadTotal cBadCoin cBadUnlike : Addr}
def s_d_l_odd_people : SpD := fun ds P _ => ds = [.hand] ∧ ∀ y, kn y = true → whole y 2 5 = false → P y
theorem len_d_l_odd_people : ∀ ds P er, s_d_l_odd_people ds P er → ds.length = 1 := by rintro _ _ _ ⟨rfl, _⟩; rfl
theorem n0_l_odd_people : ∀ ds P er, s_d_l_odd_people ds P er → s_d_l_odd_people ds P noX := fun _ _ _ h => h
theorem ok_l_odd_people {f : Addr} {fd : FuncData} (F : Fun K "_law_odd_people" "_law_odd_people" s_l_odd_people f fd) (T : Txt K mg cBadPeople cBadCount cBadTotal cBadCoin cBadUnlike) : FnOk P w K mg base CX0 4 f fd ps_l_odd_people (spOf (s_d_l_odd_people)) := by
  obtain ⟨f_l_pick, fd_l_pick, F_l_pick, m_l_pick, b_l_pick⟩ := T.d_l_pick
  have G_l_pick : FnOk P w K mg base CX0 3 f_l_pick fd_l_pick ps_l_pick (spOf (s_d_l_pick)) := ok_l_pick F_l_pick T
  refine fn0_d (k := 3) (Oe := []) F sc_l_odd_people [] _ (len_d_l_odd_people) (by decide) (fun cdv A outer sh H E hr => (s_one (s_ret (O2 := []) (fun _ z => nomatch z) (d_call (by decide) G_l_pick (hr.mono (by decide)) (by rfl) m_l_pick F_l_pick.kp b_l_pick .nil (fun _ _ _ => .nil) pass0A (a_cons (d_var (i := 0) (by decide) (pv 0)) (a_cons (ofF (f_lst (a_cons (d_c (y := .int 1) (fun _ _ _ => .int _) pe_int) (a_cons (d_c (y := .int 0) (fun _ _ _ => .int _) pe_int) (a_cons (d_c (y := .int 6) (fun _ _ _ => .int _) pe_int) (a_cons (d_neg (d_c (y := .int 2) (fun _ _ _ => .int _) pe_int)) (a_cons (d_c (y := .non) (fun _ _ _ => .non) pe_non) (a_cons (d_c (y := .bl true) (fun _ _ _ => .bl _) pe_bl) (a_cons (d_c (y := .str "2") (fun _ _ _ => .str _) pe_str) (a_cons (d_tup (a_cons (d_c (y := .int 2) (fun _ _ _ => .int _) pe_int) a_nil)) (a_cons (d_op op_pow l_pow (toV (d_c (y := .int 10) (fun _ _ _ => .int _) pe_int)) (toV (d_c (y := .int 20) (fun _ _ _ => .int _) pe_int))) a_nil))))))))))) a_nil)))) (by decide))) ?_ n0_l_odd_people
  rintro ds P ⟨rfl, q⟩
  simp only [fLenSet, fMul3, dTr, tru, dAsgT, gS, dMake2, dCBK, fMinD, dCallG, fRepr, fEqS, dSq, dAsg, dNx, dExp, dRet, dRetN, dIfS, dBk, dCt, dAppend, dInsert, dRemove, dPopAt, dSetAt, dRaise, dRaise0, dRaiseL, dVar, dC, dOp, dT, dChain, dNotT, dAndT, dOrT, dAndV, dOrV, dNotV, dIf, dNeg, dNil, dCons, dCB, dTup, dLst, dCall, dCallV, dCallF, dFld, dNoPart, dPart, dSl, dIsSeq, dBM, dTM, dXf, dYes, fSub, fDiv, fMod, fPow, fAdd, fCat, fMul, fRep, fLt, fLe, fGt, fGe, fIs, fIsNot, fIx, fSl, fSlL, fLen, fList, fTuple, fMax2, fMin2, fMax, fMin, fAbs, fInt, fIsi, fIsiN, fIsiC, gN, gT, gT0, gTC, diSeq, diRng1, diRng2, diEnum, dstart, De.off, exD, suiteD, List.map_cons, List.map_nil, List.length_cons, List.length_nil, Nat.reduceAdd, Nat.reduceSub, List.replicate_succ, List.replicate_zero, List.getElem?_cons_zero, List.getElem?_cons_succ, List.set_cons_zero, List.set_cons_succ, Option.some.injEq, exists_eq_left', exists_eq_left, exists_and_left, D.int.injEq, D.bl.injEq, D.lst.injEq, D.tup.injEq, D.str.injEq, D.exc.injEq, List.cons.injEq, and_true, true_and, List.nil_append, List.cons_append, List.append_nil, reduceCtorEq, false_and, exists_false, or_false, false_or, or_true, true_or, and_false, Int.reduceNeg, decide_eq_true_eq, Bool.not_eq_true', decide_eq_false_iff_not, and_assoc, Nat.zero_le, List.length_map, Int.zero_add, Int.reduceLT, Int.reduceLE, Int.reducePow, Int.reduceToNat, Int.reduceAdd, Int.reduceMul, Int.reduceSub, Nat.reduceLeDiff, fEq_ints, fNe_ints, fEq_lstsI, fNe_lstsI, fEq_tupsI, fNe_tupsI, noLA_ints, fSum_lst, fSum_tup, fSorted_lst, fSorted_tup, ↓reduceIte, Bool.false_eq_true, Bool.true_eq_false, false_implies, true_implies, implies_true, forall_const, Bool.not_true, Bool.not_false, s_d_l_pick]
  refine ⟨by decide, by decide, by decide, fun y hy => ?_⟩
  simp only [List.mem_cons, List.not_mem_nil, or_false] at hy
  rcases hy with rfl | rfl | rfl | rfl | rfl | rfl | rfl | rfl | rfl <;> exact q _ rfl rfl
def s_d_l_odd_number : SpD := fun ds P _ => ∃ m : Int, ds = [.hand, .int m] ∧ 0 ≤ m ∧ ∀ y, kn y = true → whole y 0 m = false → P y
theorem len_d_l_odd_number : ∀ ds P er, s_d_l_odd_number ds P er → ds.length = 2 := by rintro _ _ _ ⟨_, rfl, _⟩; rfl
theorem n0_l_odd_number : ∀ ds P er, s_d_l_odd_number ds P er → s_d_l_odd_number ds P noX := fun _ _ _ h => h
theorem ok_l_odd_number {f : Addr} {fd : FuncData} (F : Fun K "_law_odd_number" "_law_odd_number" s_l_odd_number f fd) (T : Txt K mg cBadPeople cBadCount cBadTotal cBadCoin cBadUnlike) : FnOk P w K mg base CX0 4 f fd ps_l_odd_number (spOf (s_d_l_odd_number)) := by
  obtain ⟨f_l_pick, fd_l_pick, F_l_pick, m_l_pick, b_l_pick⟩ := T.d_l_pick
  have G_l_pick : FnOk P w K mg base CX0 3 f_l_pick fd_l_pick ps_l_pick (spOf (s_d_l_pick)) := ok_l_pick F_l_pick T
  refine fn0_d (k := 3) (Oe := []) F sc_l_odd_number [] _ (len_d_l_odd_number) (by decide) (fun cdv A outer sh H E hr => (s_one (s_ret (O2 := []) (fun _ z => nomatch z) (d_call (by decide) G_l_pick (hr.mono (by decide)) (by rfl) m_l_pick F_l_pick.kp b_l_pick .nil (fun _ _ _ => .nil) pass0A (a_cons (d_var (i := 0) (by decide) (pv 0)) (a_cons (ofF (f_lst (a_cons (d_neg (d_c (y := .int 1) (fun _ _ _ => .int _) pe_int)) (a_cons (d_op op_add4 l_add (toV (d_var (i := 1) (by decide) (pv 1))) (toV (d_c (y := .int 1) (fun _ _ _ => .int _) pe_int))) (a_cons (d_c (y := .non) (fun _ _ _ => .non) pe_non) (a_cons (d_c (y := .bl true) (fun _ _ _ => .bl _) pe_bl) (a_cons (d_c (y := .bl false) (fun _ _ _ => .bl _) pe_bl) (a_cons (d_c (y := .str "1") (fun _ _ _ => .str _) pe_str) (a_cons (d_tup (a_cons (d_c (y := .int 1) (fun _ _ _ => .int _) pe_int) a_nil)) (a_cons (d_neg (d_op op_pow l_pow (toV (d_c (y := .int 10) (fun _ _ _ => .int _) pe_int)) (toV (d_c (y := .int 20) (fun _ _ _ => .int _) pe_int)))) (a_cons (d_op op_add4 l_add (toV (d_var (i := 1) (by decide) (pv 1))) (toV (d_op op_pow l_pow (toV (d_c (y := .int 10) (fun _ _ _ => .int _) pe_int)) (toV (d_c (y := .int 9) (fun _ _ _ => .int _) pe_int))))) a_nil))))))))))) a_nil)))) (by decide))) ?_ n0_l_odd_number
  rintro ds P ⟨m, rfl, m0, q⟩
  simp only [fLenSet, fMul3, dTr, tru, dAsgT, gS, dMake2, dCBK, fMinD, dCallG, fRepr, fEqS, dSq, dAsg, dNx, dExp, dRet, dRetN, dIfS, dBk, dCt, dAppend, dInsert, dRemove, dPopAt, dSetAt, dRaise, dRaise0, dRaiseL, dVar, dC, dOp, dT, dChain, dNotT, dAndT, dOrT, dAndV, dOrV, dNotV, dIf, dNeg, dNil, dCons, dCB, dTup, dLst, dCall, dCallV, dCallF, dFld, dNoPart, dPart, dSl, dIsSeq, dBM, dTM, dXf, dYes, fSub, fDiv, fMod, fPow, fAdd, fCat, fMul, fRep, fLt, fLe, fGt, fGe, fIs, fIsNot, fIx, fSl, fSlL, fLen, fList, fTuple, fMax2, fMin2, fMax, fMin, fAbs, fInt, fIsi, fIsiN, fIsiC, gN, gT, gT0, gTC, diSeq, diRng1, diRng2, diEnum, dstart, De.off, exD, suiteD, List.map_cons, List.map_nil, List.length_cons, List.length_nil, Nat.reduceAdd, Nat.reduceSub, List.replicate_succ, List.replicate_zero, List.getElem?_cons_zero, List.getElem?_cons_succ, List.set_cons_zero, List.set_cons_succ, Option.some.injEq, exists_eq_left', exists_eq_left, exists_and_left, D.int.injEq, D.bl.injEq, D.lst.injEq, D.tup.injEq, D.str.injEq, D.exc.injEq, List.cons.injEq, and_true, true_and, List.nil_append, List.cons_append, List.append_nil, reduceCtorEq, false_and, exists_false, or_false, false_or, or_true, true_or, and_false, Int.reduceNeg, decide_eq_true_eq, Bool.not_eq_true', decide_eq_false_iff_not, and_assoc, Nat.zero_le, List.length_map, Int.zero_add, Int.reduceLT, Int.reduceLE, Int.reducePow, Int.reduceToNat, Int.reduceAdd, Int.reduceMul, Int.reduceSub, Nat.reduceLeDiff, fEq_ints, fNe_ints, fEq_lstsI, fNe_lstsI, fEq_tupsI, fNe_tupsI, noLA_ints, fSum_lst, fSum_tup, fSorted_lst, fSorted_tup, ↓reduceIte, Bool.false_eq_true, Bool.true_eq_false, false_implies, true_implies, implies_true, forall_const, Bool.not_true, Bool.not_false, s_d_l_pick]
  refine ⟨by decide, by decide, by decide, fun y hy => ?_⟩
  simp only [List.mem_cons, List.not_mem_nil, or_false] at hy
  rcases hy with rfl | rfl | rfl | rfl | rfl | rfl | rfl | rfl | rfl <;> refine q _ rfl ?_ <;> first | rfl | (simp [whole]; omega) | simp [whole]
/-- a row and each coin that may stand behind it -/
def kids (p : Int) (r : List Int) : List (List Int) := (List.range (nxt p r.sum + 1 - r.getLastD 1).toNat).map fun (j : Nat) => r ++ [r.getLastD 1 + (j : Int)]
def grown (p : Int) (rows : List (List Int)) : List (List Int) := rows.flatMap (kids p)
theorem mem_kids {p : Int} {r q : List Int} : q ∈ kids p r ↔ ∃ c, q = r ++ [c] ∧ r.getLastD 1 ≤ c ∧ c ≤ nxt p r.sum := by
  unfold kids
  rw [List.mem_map]
  constructor
  · rintro ⟨j, hj, rfl⟩
    rw [List.mem_range] at hj
    exact ⟨_, rfl, by omega, by omega⟩
  · rintro ⟨c, rfl, h1, h2⟩
    exact ⟨(c - r.getLastD 1).toNat, List.mem_range.mpr (by omega), by congr 2; omega⟩
theorem mem_grown {p : Int} {rows : List (List Int)} {q : List Int} : q ∈ grown p rows ↔ ∃ r c, r ∈ rows ∧ q = r ++ [c] ∧ r.getLastD 1 ≤ c ∧ c ≤ nxt p r.sum := by
  unfold grown
  rw [List.mem_flatMap]
  constructor
  · rintro ⟨r, hr, h⟩
    obtain ⟨c, h1, h2, h3⟩ := mem_kids.mp h
    exact ⟨r, c, hr, h1, h2, h3⟩
  · rintro ⟨r, c, hr, h1, h2, h3⟩
    exact ⟨r, hr, mem_kids.mpr ⟨c, h1, h2, h3⟩⟩
/-- how many may come -/
def heap_ (p : Int) (rows : List (List Int)) : Nat := (rows.map fun r => (nxt p r.sum).toNat).sum
theorem kids_len {p : Int} {r : List Int} (h : 1 ≤ r.getLastD 1) : (kids p r).length ≤ (nxt p r.sum).toNat := by
  unfold kids
  rw [List.length_map, List.length_range]
  omega
theorem heap_take {p : Int} {rows : List (List Int)} {k : Nat} {r : List Int} (h : rows[k]? = some r) : heap_ p (rows.take k) + (nxt p r.sum).toNat ≤ heap_ p rows := by
  have e : rows = rows.take (k + 1) ++ rows.drop (k + 1) := (List.take_append_drop _ _).symm
  have e2 : rows.take (k + 1) = rows.take k ++ [r] := by rw [List.take_add_one, h]; rfl
  unfold heap_
  conv => rhs; rw [e, e2]
  rw [List.map_append, List.map_append, List.sum_append, List.sum_append]
  simp
theorem grown_len {p : Int} : ∀ {rows : List (List Int)}, (∀ r, r ∈ rows → 1 ≤ r.getLastD 1) → (grown p rows).length ≤ heap_ p rows
  | [], _ => Nat.le_refl _
  | r :: rows, h => by
    have h1 := kids_len (p := p) (h r List.mem_cons_self)
    have h2 := grown_len (p := p) fun q hq => h q (List.mem_cons_of_mem r hq)
    unfold grown heap_ at *
    rw [List.flatMap_cons, List.length_append, List.map_cons, List.sum_cons]
    omega
theorem atI_last {xs : List D} {y : D} : atI (xs ++ [y]) (-1) = some y := by
  unfold L2.atI
  have : ixN (xs ++ [y]).length (-1) = some xs.length := by
    unfold ixN
    simp
    omega
  rw [this]
  simp
theorem atI_end {r : List Int} (h : r ≠ []) : atI (r.map D.int) (-1) = some (.int (r.getLastD 1)) := by
  rcases List.eq_nil_or_concat r with rfl | ⟨a, c, rfl⟩
  · exact absurd rfl h
  · rw [List.concat_eq_append, List.map_append, List.getLastD_concat]
    exact atI_last
def s_d_l_grown : SpD := fun ds P _ => ∃ (rows : List (List Int)) (p : Int), ds = [.lst (rows.map tupI), .int p] ∧ 2 ≤ p ∧ p ≤ 5 ∧ heap_ p rows ≤ 1000000 ∧ (∀ r, r ∈ rows → Row p r ∧ nxt p r.sum < 1000000000 ∧ r.length ≤ 100) ∧ P (.lst ((grown p rows).map tupI))
theorem len_d_l_grown : ∀ ds P er, s_d_l_grown ds P er → ds.length = 2 := by rintro _ _ _ ⟨_, _, rfl, _⟩; rfl
theorem n0_l_grown : ∀ ds P er, s_d_l_grown ds P er → s_d_l_grown ds P noX := fun _ _ _ h => h
theorem shp_tupI (n : Nat) (ms : List Int) : D.shp (n + 1) (tupI ms) = true := shpA_ints _ _
theorem ok_l_grown {f : Addr} {fd : FuncData} (F : Fun K "_law_grown" "_law_grown" s_l_grown f fd) (T : Txt K mg cBadPeople cBadCount cBadTotal cBadCoin cBadUnlike) : FnOk P w K mg base CX0 2 f fd ps_l_grown (spOf (s_d_l_grown)) := by
  obtain ⟨f_l_next, fd_l_next, F_l_next, m_l_next, b_l_next⟩ := T.d_l_next
  have G_l_next : FnOk P w K mg base CX0 1 f_l_next fd_l_next ps_l_next (spOf (s_d_l_next)) := ok_l_next F_l_next T
  refine fn0_d (k := 1) (Oe := []) F sc_l_grown [2] _ (len_d_l_grown) (by decide) (fun cdv A outer sh H E hr => (s_cons (s_setF (i := 2) (by decide) sc_l_grown.nd rfl (Or.inl rfl) (f_lst a_nil))
      (s_cons (s_for (vs := [3]) PassesOwn.never rfl (by decide) (pi_seq (d_var (i := 0) (by decide) (pv 0))) (li_seq (own := false)) (pg_name (i := 3) sc_l_grown.nd rfl (Or.inl rfl)) (lg_name (i := 3) (by decide) (by decide))
      (s_cons (s_set (i := 4) (by decide) sc_l_grown.nd rfl (Or.inl rfl) (d_if (d_tcmp (op_neD hr.units) l_ne (toV (d_var (i := 3) (by decide) (pv 3))) (toV (d_tup a_nil)) (nomark _)) (d_ix ix_seq l_ix (toV (d_var (i := 3) (by decide) (pv 3))) (toV (d_neg (d_c (y := .int 1) (fun _ _ _ => .int _) pe_int))) (fun _ _ => rfl)) (d_c (y := .int 1) (fun _ _ _ => .int _) pe_int)))
      (s_one (s_for (vs := [5]) PassesOwn.never rfl (by decide) (pi_range2 (by rfl) T.n_range (pa_cons (d_var (i := 4) (by decide) (pv 4)) (pa_cons (d_op op_add4 l_add (toV (d_call (by decide) G_l_next (hr.mono (by decide)) (by rfl) m_l_next F_l_next.kp b_l_next .nil (fun _ _ _ => .nil) pass0A (a_cons (d_callB (cr_sumE rfl) c_sum (by rfl) T.n_sum (by decide +kernel) (v_cons (toV (d_var (i := 3) (by decide) (pv 3))) v_nil)) (a_cons (d_var (i := 1) (by decide) (pv 1)) a_nil)))) (toV (d_c (y := .int 1) (fun _ _ _ => .int _) pe_int))) pa_nil))) (li_rng2 (own := false)) (pg_name (i := 5) sc_l_grown.nd rfl (Or.inl rfl)) (lg_name (i := 5) (by decide) (by decide))
      (s_one (s_append (i := 2) (by decide) (pv 2) (d_op op_add4 l_add (toV (d_var (i := 3) (by decide) (pv 3))) (toV (d_tup (a_cons (d_var (i := 5) (by decide) (pv 5)) a_nil))))) (fun _ z => z))) (fun _ z => z))))
      (s_less (O2 := []) (by decide)
      (s_one (s_ret (O2 := []) (fun _ z => nomatch z) (d_var (i := 2) (by decide) (pv 2))) (by decide)))))) ?_ n0_l_grown
  rintro ds P ⟨rows, p, rfl, p0, p1, hz, hr, q⟩
  have small : (1000000 : Nat) < sizeLine := by decide
  refine sq_cut fun R eR => ?_
  simp only [fLenSet, fMul3, dTr, tru, dAsgT, gS, dMake2, dCBK, fMinD, dCallG, fRepr, fEqS, dSq, dAsg, dNx, dExp, dRet, dRetN, dIfS, dBk, dCt, dAppend, dInsert, dRemove, dPopAt, dSetAt, dRaise, dRaise0, dRaiseL, dVar, dC, dOp, dT, dChain, dNotT, dAndT, dOrT, dAndV, dOrV, dNotV, dIf, dNeg, dNil, dCons, dCB, dTup, dLst, dCall, dCallV, dCallF, dFld, dNoPart, dPart, dSl, dIsSeq, dBM, dTM, dXf, dYes, fSub, fDiv, fMod, fPow, fAdd, fCat, fMul, fRep, fLt, fLe, fGt, fGe, fIs, fIsNot, fIx, fSl, fSlL, fLen, fList, fTuple, fMax2, fMin2, fMax, fMin, fAbs, fInt, fIsi, fIsiN, fIsiC, gN, gT, gT0, gTC, diSeq, diRng1, diRng2, diEnum, dstart, De.off, exD, suiteD, List.map_cons, List.map_nil, List.length_cons, List.length_nil, Nat.reduceAdd, Nat.reduceSub, List.replicate_succ, List.replicate_zero, List.getElem?_cons_zero, List.getElem?_cons_succ, List.set_cons_zero, List.set_cons_succ, Option.some.injEq, exists_eq_left', exists_eq_left, exists_and_left, D.int.injEq, D.bl.injEq, D.lst.injEq, D.tup.injEq, D.str.injEq, D.exc.injEq, List.cons.injEq, and_true, true_and, List.nil_append, List.cons_append, List.append_nil, reduceCtorEq, false_and, exists_false, or_false, false_or, or_true, true_or, and_false, Int.reduceNeg, decide_eq_true_eq, Bool.not_eq_true', decide_eq_false_iff_not, and_assoc, Nat.zero_le, List.length_map, Int.zero_add, Int.reduceLT, Int.reduceLE, Int.reducePow, Int.reduceToNat, Int.reduceAdd, Int.reduceMul, Int.reduceSub, Nat.reduceLeDiff, fEq_ints, fNe_ints, fEq_lstsI, fNe_lstsI, fEq_tupsI, fNe_tupsI, noLA_ints, fSum_lst, fSum_tup, fSorted_lst, fSorted_tup, ↓reduceIte, Bool.false_eq_true, Bool.true_eq_false, false_implies, true_implies, implies_true, forall_const, Bool.not_true, Bool.not_false]
  subst eR
  refine sq_cut fun R eR => ?_
  refine for_i (rows.map tupI) (fun k δ => ∃ v1 v2 v3 : Option D, δ = [some (.lst (rows.map tupI)), some (.int p), some (.lst ((grown p (rows.take k)).map tupI)), v1, v2, v3]) (fun Q q => by simp only [fLenSet, fMul3, dTr, tru, dAsgT, gS, dMake2, dCBK, fMinD, dCallG, fRepr, fEqS, dSq, dAsg, dNx, dExp, dRet, dRetN, dIfS, dBk, dCt, dAppend, dInsert, dRemove, dPopAt, dSetAt, dRaise, dRaise0, dRaiseL, dVar, dC, dOp, dT, dChain, dNotT, dAndT, dOrT, dAndV, dOrV, dNotV, dIf, dNeg, dNil, dCons, dCB, dTup, dLst, dCall, dCallV, dCallF, dFld, dNoPart, dPart, dSl, dIsSeq, dBM, dTM, dXf, dYes, fSub, fDiv, fMod, fPow, fAdd, fCat, fMul, fRep, fLt, fLe, fGt, fGe, fIs, fIsNot, fIx, fSl, fSlL, fLen, fList, fTuple, fMax2, fMin2, fMax, fMin, fAbs, fInt, fIsi, fIsiN, fIsiC, gN, gT, gT0, gTC, diSeq, diRng1, diRng2, diEnum, dstart, De.off, exD, suiteD, List.map_cons, List.map_nil, List.length_cons, List.length_nil, Nat.reduceAdd, Nat.reduceSub, List.replicate_succ, List.replicate_zero, List.getElem?_cons_zero, List.getElem?_cons_succ, List.set_cons_zero, List.set_cons_succ, Option.some.injEq, exists_eq_left', exists_eq_left, exists_and_left, D.int.injEq, D.bl.injEq, D.lst.injEq, D.tup.injEq, D.str.injEq, D.exc.injEq, List.cons.injEq, and_true, true_and, List.nil_append, List.cons_append, List.append_nil, reduceCtorEq, false_and, exists_false, or_false, false_or, or_true, true_or, and_false, Int.reduceNeg, decide_eq_true_eq, Bool.not_eq_true', decide_eq_false_iff_not, and_assoc, Nat.zero_le, List.length_map, Int.zero_add, Int.reduceLT, Int.reduceLE, Int.reducePow, Int.reduceToNat, Int.reduceAdd, Int.reduceMul, Int.reduceSub, Nat.reduceLeDiff, fEq_ints, fNe_ints, fEq_lstsI, fNe_lstsI, fEq_tupsI, fNe_tupsI, noLA_ints, fSum_lst, fSum_tup, fSorted_lst, fSorted_tup, ↓reduceIte, Bool.false_eq_true, Bool.true_eq_false, false_implies, true_implies, implies_true, forall_const, Bool.not_true, Bool.not_false]; exact ⟨_, rfl, q⟩) ⟨_, _, _, rfl⟩ ?_ ?_
  · rintro k δ' x N hN ⟨v1, v2, v3, rfl⟩ hx
    rw [List.getElem?_map] at hx
    obtain ⟨r, hrk, rfl⟩ := Option.map_eq_some_iff.mp hx
    obtain ⟨hrow, hnx, hrl⟩ := hr r (List.mem_of_getElem? hrk)
    have hl := hrow.last p0
    have ht := heap_take (p := p) hrk
    have hg := grown_len (p := p) (rows := rows.take k) fun q hq => ((hr q (List.mem_of_mem_take hq)).1.last p0).2
    simp only [gN, gT, gT0, gTC, wipeD, D.tup.injEq, D.lst.injEq, List.length_cons, List.length_nil, Nat.reduceAdd, List.cons.injEq, exists_eq_left', exists_eq_left, exists_and_left, and_true, true_and, and_assoc, List.set_cons_zero, List.set_cons_succ, reduceCtorEq, Int.zero_add]
    refine sq_cut fun R2 eR2 => ?_
    simp only [fLenSet, fMul3, dTr, tru, dAsgT, gS, dMake2, dCBK, fMinD, dCallG, fRepr, fEqS, dSq, dAsg, dNx, dExp, dRet, dRetN, dIfS, dBk, dCt, dAppend, dInsert, dRemove, dPopAt, dSetAt, dRaise, dRaise0, dRaiseL, dVar, dC, dOp, dT, dChain, dNotT, dAndT, dOrT, dAndV, dOrV, dNotV, dIf, dNeg, dNil, dCons, dCB, dTup, dLst, dCall, dCallV, dCallF, dFld, dNoPart, dPart, dSl, dIsSeq, dBM, dTM, dXf, dYes, fSub, fDiv, fMod, fPow, fAdd, fCat, fMul, fRep, fLt, fLe, fGt, fGe, fIs, fIsNot, fIx, fSl, fSlL, fLen, fList, fTuple, fMax2, fMin2, fMax, fMin, fAbs, fInt, fIsi, fIsiN, fIsiC, gN, gT, gT0, gTC, diSeq, diRng1, diRng2, diEnum, dstart, De.off, exD, suiteD, List.map_cons, List.map_nil, List.length_cons, List.length_nil, Nat.reduceAdd, Nat.reduceSub, List.replicate_succ, List.replicate_zero, List.getElem?_cons_zero, List.getElem?_cons_succ, List.set_cons_zero, List.set_cons_succ, Option.some.injEq, exists_eq_left', exists_eq_left, exists_and_left, D.int.injEq, D.bl.injEq, D.lst.injEq, D.tup.injEq, D.str.injEq, D.exc.injEq, List.cons.injEq, and_true, true_and, List.nil_append, List.cons_append, List.append_nil, reduceCtorEq, false_and, exists_false, or_false, false_or, or_true, true_or, and_false, Int.reduceNeg, decide_eq_true_eq, Bool.not_eq_true', decide_eq_false_iff_not, and_assoc, Nat.zero_le, List.length_map, Int.zero_add, Int.reduceLT, Int.reduceLE, Int.reducePow, Int.reduceToNat, Int.reduceAdd, Int.reduceMul, Int.reduceSub, Nat.reduceLeDiff, fEq_ints, fNe_ints, fEq_lstsI, fNe_lstsI, fEq_tupsI, fNe_tupsI, noLA_ints, fSum_lst, fSum_tup, fSorted_lst, fSorted_tup, ↓reduceIte, Bool.false_eq_true, Bool.true_eq_false, false_implies, true_implies, implies_true, forall_const, Bool.not_true, Bool.not_false]
    have go : R2 [some (.lst (rows.map tupI)), some (.int p), some (.lst ((grown p (rows.take k)).map tupI)), some (tupI r), some (.int (r.getLastD 1)), v3] := by
      subst eR2
      refine for_i (rangeD (r.getLastD 1) (nxt p r.sum + 1 - r.getLastD 1).toNat) (fun j δ => ∃ v : Option D, δ = [some (.lst (rows.map tupI)), some (.int p), some (.lst ((grown p (rows.take k) ++ (kids p r).take j).map tupI)), some (tupI r), some (.int (r.getLastD 1)), v]) (fun Q q => by simp only [fLenSet, fMul3, dTr, tru, dAsgT, gS, dMake2, dCBK, fMinD, dCallG, fRepr, fEqS, dSq, dAsg, dNx, dExp, dRet, dRetN, dIfS, dBk, dCt, dAppend, dInsert, dRemove, dPopAt, dSetAt, dRaise, dRaise0, dRaiseL, dVar, dC, dOp, dT, dChain, dNotT, dAndT, dOrT, dAndV, dOrV, dNotV, dIf, dNeg, dNil, dCons, dCB, dTup, dLst, dCall, dCallV, dCallF, dFld, dNoPart, dPart, dSl, dIsSeq, dBM, dTM, dXf, dYes, fSub, fDiv, fMod, fPow, fAdd, fCat, fMul, fRep, fLt, fLe, fGt, fGe, fIs, fIsNot, fIx, fSl, fSlL, fLen, fList, fTuple, fMax2, fMin2, fMax, fMin, fAbs, fInt, fIsi, fIsiN, fIsiC, gN, gT, gT0, gTC, diSeq, diRng1, diRng2, diEnum, dstart, De.off, exD, suiteD, List.map_cons, List.map_nil, List.length_cons, List.length_nil, Nat.reduceAdd, Nat.reduceSub, List.replicate_succ, List.replicate_zero, List.getElem?_cons_zero, List.getElem?_cons_succ, List.set_cons_zero, List.set_cons_succ, Option.some.injEq, exists_eq_left', exists_eq_left, exists_and_left, D.int.injEq, D.bl.injEq, D.lst.injEq, D.tup.injEq, D.str.injEq, D.exc.injEq, List.cons.injEq, and_true, true_and, List.nil_append, List.cons_append, List.append_nil, reduceCtorEq, false_and, exists_false, or_false, false_or, or_true, true_or, and_false, Int.reduceNeg, decide_eq_true_eq, Bool.not_eq_true', decide_eq_false_iff_not, and_assoc, Nat.zero_le, List.length_map, Int.zero_add, Int.reduceLT, Int.reduceLE, Int.reducePow, Int.reduceToNat, Int.reduceAdd, Int.reduceMul, Int.reduceSub, Nat.reduceLeDiff, fEq_ints, fNe_ints, fEq_lstsI, fNe_lstsI, fEq_tupsI, fNe_tupsI, noLA_ints, fSum_lst, fSum_tup, fSorted_lst, fSorted_tup, ↓reduceIte, Bool.false_eq_true, Bool.true_eq_false, false_implies, true_implies, implies_true, forall_const, Bool.not_true, Bool.not_false, s_d_l_next]; exact ⟨p0, by omega, by omega, by omega, by omega, by omega, q⟩) ⟨v3, by simp⟩ ?_ ?_
      · rintro j δ' x M hM ⟨v, rfl⟩ hx
        rw [rangeD_get] at hx
        split at hx <;> cases hx
        rename_i hj
        simp only [fLenSet, fMul3, dTr, tru, dAsgT, gS, dMake2, dCBK, fMinD, dCallG, fRepr, fEqS, dSq, dAsg, dNx, dExp, dRet, dRetN, dIfS, dBk, dCt, dAppend, dInsert, dRemove, dPopAt, dSetAt, dRaise, dRaise0, dRaiseL, dVar, dC, dOp, dT, dChain, dNotT, dAndT, dOrT, dAndV, dOrV, dNotV, dIf, dNeg, dNil, dCons, dCB, dTup, dLst, dCall, dCallV, dCallF, dFld, dNoPart, dPart, dSl, dIsSeq, dBM, dTM, dXf, dYes, fSub, fDiv, fMod, fPow, fAdd, fCat, fMul, fRep, fLt, fLe, fGt, fGe, fIs, fIsNot, fIx, fSl, fSlL, fLen, fList, fTuple, fMax2, fMin2, fMax, fMin, fAbs, fInt, fIsi, fIsiN, fIsiC, gN, gT, gT0, gTC, diSeq, diRng1, diRng2, diEnum, dstart, De.off, exD, suiteD, List.map_cons, List.map_nil, List.length_cons, List.length_nil, Nat.reduceAdd, Nat.reduceSub, List.replicate_succ, List.replicate_zero, List.getElem?_cons_zero, List.getElem?_cons_succ, List.set_cons_zero, List.set_cons_succ, Option.some.injEq, exists_eq_left', exists_eq_left, exists_and_left, D.int.injEq, D.bl.injEq, D.lst.injEq, D.tup.injEq, D.str.injEq, D.exc.injEq, List.cons.injEq, and_true, true_and, List.nil_append, List.cons_append, List.append_nil, reduceCtorEq, false_and, exists_false, or_false, false_or, or_true, true_or, and_false, Int.reduceNeg, decide_eq_true_eq, Bool.not_eq_true', decide_eq_false_iff_not, and_assoc, Nat.zero_le, List.length_map, Int.zero_add, Int.reduceLT, Int.reduceLE, Int.reducePow, Int.reduceToNat, Int.reduceAdd, Int.reduceMul, Int.reduceSub, Nat.reduceLeDiff, fEq_ints, fNe_ints, fEq_lstsI, fNe_lstsI, fEq_tupsI, fNe_tupsI, noLA_ints, fSum_lst, fSum_tup, fSorted_lst, fSorted_tup, ↓reduceIte, Bool.false_eq_true, Bool.true_eq_false, false_implies, true_implies, implies_true, forall_const, Bool.not_true, Bool.not_false]
        have kj : (kids p r)[j]? = some (r ++ [r.getLastD 1 + (j : Int)]) := by
          unfold kids
          rw [List.getElem?_map, List.getElem?_range hj]
          rfl
        have kl := kids_len (p := p) hl.2
        have kt : ((kids p r).take j).length ≤ (kids p r).length := by rw [List.length_take]; omega
        refine ⟨by omega, by omega, by rw [List.length_append]; omega, hM _ ⟨some (.int (r.getLastD 1 + (j : Int))), ?_⟩⟩
        rw [List.take_add_one, kj, ← List.append_assoc, List.map_append (l₁ := _ ++ _)]
        simp
      · rintro δ' ⟨v, rfl⟩
        rw [rangeD_length]
        refine hN _ ⟨some (tupI r), some (.int (r.getLastD 1)), v, ?_⟩
        have e1 : (kids p r).take (nxt p r.sum + 1 - r.getLastD 1).toNat = kids p r := List.take_of_length_le (by unfold kids; rw [List.length_map, List.length_range]; exact Nat.le_refl _)
        rw [e1, List.take_add_one, hrk]
        unfold grown
        rw [List.flatMap_append]
        simp
    refine (fNe_tupsI (ns := r) (ms := [])).mpr ?_
    simp only [fLenSet, fMul3, dTr, tru, dAsgT, gS, dMake2, dCBK, fMinD, dCallG, fRepr, fEqS, dSq, dAsg, dNx, dExp, dRet, dRetN, dIfS, dBk, dCt, dAppend, dInsert, dRemove, dPopAt, dSetAt, dRaise, dRaise0, dRaiseL, dVar, dC, dOp, dT, dChain, dNotT, dAndT, dOrT, dAndV, dOrV, dNotV, dIf, dNeg, dNil, dCons, dCB, dTup, dLst, dCall, dCallV, dCallF, dFld, dNoPart, dPart, dSl, dIsSeq, dBM, dTM, dXf, dYes, fSub, fDiv, fMod, fPow, fAdd, fCat, fMul, fRep, fLt, fLe, fGt, fGe, fIs, fIsNot, fIx, fSl, fSlL, fLen, fList, fTuple, fMax2, fMin2, fMax, fMin, fAbs, fInt, fIsi, fIsiN, fIsiC, gN, gT, gT0, gTC, diSeq, diRng1, diRng2, diEnum, dstart, De.off, exD, suiteD, List.map_cons, List.map_nil, List.length_cons, List.length_nil, Nat.reduceAdd, Nat.reduceSub, List.replicate_succ, List.replicate_zero, List.getElem?_cons_zero, List.getElem?_cons_succ, List.set_cons_zero, List.set_cons_succ, Option.some.injEq, exists_eq_left', exists_eq_left, exists_and_left, D.int.injEq, D.bl.injEq, D.lst.injEq, D.tup.injEq, D.str.injEq, D.exc.injEq, List.cons.injEq, and_true, true_and, List.nil_append, List.cons_append, List.append_nil, reduceCtorEq, false_and, exists_false, or_false, false_or, or_true, true_or, and_false, Int.reduceNeg, decide_eq_true_eq, Bool.not_eq_true', decide_eq_false_iff_not, and_assoc, Nat.zero_le, List.length_map, Int.zero_add, Int.reduceLT, Int.reduceLE, Int.reducePow, Int.reduceToNat, Int.reduceAdd, Int.reduceMul, Int.reduceSub, Nat.reduceLeDiff, fEq_ints, fNe_ints, fEq_lstsI, fNe_lstsI, fEq_tupsI, fNe_tupsI, noLA_ints, fSum_lst, fSum_tup, fSorted_lst, fSorted_tup, ↓reduceIte, Bool.false_eq_true, Bool.true_eq_false, false_implies, true_implies, implies_true, forall_const, Bool.not_true, Bool.not_false]
    split
    · rename_i h
      have := atI_end h
      exact ⟨_, this, go⟩
    · rename_i h
      have e : r = [] := by simpa using h
      have := go
      rw [e] at this ⊢
      exact this
  · rintro δ' ⟨v1, v2, v3, rfl⟩
    rw [List.length_map, List.take_length]
    subst eR
    simp only [fLenSet, fMul3, dTr, tru, dAsgT, gS, dMake2, dCBK, fMinD, dCallG, fRepr, fEqS, dSq, dAsg, dNx, dExp, dRet, dRetN, dIfS, dBk, dCt, dAppend, dInsert, dRemove, dPopAt, dSetAt, dRaise, dRaise0, dRaiseL, dVar, dC, dOp, dT, dChain, dNotT, dAndT, dOrT, dAndV, dOrV, dNotV, dIf, dNeg, dNil, dCons, dCB, dTup, dLst, dCall, dCallV, dCallF, dFld, dNoPart, dPart, dSl, dIsSeq, dBM, dTM, dXf, dYes, fSub, fDiv, fMod, fPow, fAdd, fCat, fMul, fRep, fLt, fLe, fGt, fGe, fIs, fIsNot, fIx, fSl, fSlL, fLen, fList, fTuple, fMax2, fMin2, fMax, fMin, fAbs, fInt, fIsi, fIsiN, fIsiC, gN, gT, gT0, gTC, diSeq, diRng1, diRng2, diEnum, dstart, De.off, exD, suiteD, List.map_cons, List.map_nil, List.length_cons, List.length_nil, Nat.reduceAdd, Nat.reduceSub, List.replicate_succ, List.replicate_zero, List.getElem?_cons_zero, List.getElem?_cons_succ, List.set_cons_zero, List.set_cons_succ, Option.some.injEq, exists_eq_left', exists_eq_left, exists_and_left, D.int.injEq, D.bl.injEq, D.lst.injEq, D.tup.injEq, D.str.injEq, D.exc.injEq, List.cons.injEq, and_true, true_and, List.nil_append, List.cons_append, List.append_nil, reduceCtorEq, false_and, exists_false, or_false, false_or, or_true, true_or, and_false, Int.reduceNeg, decide_eq_true_eq, Bool.not_eq_true', decide_eq_false_iff_not, and_assoc, Nat.zero_le, List.length_map, Int.zero_add, Int.reduceLT, Int.reduceLE, Int.reducePow, Int.reduceToNat, Int.reduceAdd, Int.reduceMul, Int.reduceSub, Nat.reduceLeDiff, fEq_ints, fNe_ints, fEq_lstsI, fNe_lstsI, fEq_tupsI, fNe_tupsI, noLA_ints, fSum_lst, fSum_tup, fSorted_lst, fSorted_tup, ↓reduceIte, Bool.false_eq_true, Bool.true_eq_false, false_implies, true_implies, implies_true, forall_const, Bool.not_true, Bool.not_false]
    exact q
def s_d_l_best : SpD := fun ds P _ => ∃ (r : List Int) (n u : Nat) (p : Int), ds = [.tup [.int r.sum, tupI r], .int n, .int u, .int p] ∧ 2 ≤ p ∧ p ≤ 5 ∧ n ≤ 12 ∧ Best p u n r ∧ P (.int r.sum)
theorem len_d_l_best : ∀ ds P er, s_d_l_best ds P er → ds.length = 4 := by rintro _ _ _ ⟨_, _, _, _, rfl, _⟩; rfl
theorem n0_l_best : ∀ ds P er, s_d_l_best ds P er → s_d_l_best ds P noX := fun _ _ _ h => h
theorem ok_l_best {f : Addr} {fd : FuncData} (F : Fun K "_law_best" "_law_best" s_l_best f fd) (T : Txt K mg cBadPeople cBadCount cBadTotal cBadCoin cBadUnlike) : FnOk P w K mg base CX0 3 f fd ps_l_best (spOf (s_d_l_best)) := by
  obtain ⟨f_l_is_whole, fd_l_is_whole, F_l_is_whole, m_l_is_whole, b_l_is_whole⟩ := T.d_l_is_whole
  have G_l_is_whole : FnOk P w K mg base CX0 1 f_l_is_whole fd_l_is_whole ps_l_is_whole (spOf (s_d_l_is_whole)) := ok_l_is_whole F_l_is_whole T
  obtain ⟨f_l_is_coins, fd_l_is_coins, F_l_is_coins, m_l_is_coins, b_l_is_coins⟩ := T.d_l_is_coins
  have G_l_is_coins : FnOk P w K mg base CX0 2 f_l_is_coins fd_l_is_coins ps_l_is_coins (spOf (s_d_l_is_coins)) := ok_l_is_coins F_l_is_coins T
  obtain ⟨f_l_serves, fd_l_serves, F_l_serves, m_l_serves, b_l_serves⟩ := T.d_l_serves
  have G_l_serves : FnOk P w K mg base CX0 2 f_l_serves fd_l_serves ps_l_serves (spOf (s_d_l_serves)) := ok_l_serves F_l_serves T
  refine fn0_d (k := 2) (Oe := []) F sc_l_best [] _ (len_d_l_best) (by decide) (fun cdv A outer sh H E hr => (s_cons (s_if (PW.pt (d_or (d_not (d_test (d_callB call_isi c_isiTuple (by rfl) T.n_isinstance (by decide +kernel) (v_cons (toV (d_var (i := 0) (by decide) (pv 0))) (v_cons (toV (d_c (y := .ty "tuple") (fun _ _ _ => .ty _) (pe_bltn (v := .ty "tuple") (by rfl) T.n_tuple (by decide +kernel) rfl))) v_nil))))) (d_or1 (d_tcmp (op_neD hr.units) l_ne (toV (d_callB call_len3 c_len (by rfl) T.n_len (by decide +kernel) (v_cons (toV (d_var (i := 0) (by decide) (pv 0))) v_nil))) (toV (d_c (y := .int 2) (fun _ _ _ => .int _) pe_int)) (nomark _))))) (s_one (s_ret (O2 := []) (fun _ z => nomatch z) (d_neg (d_c (y := .int 1) (fun _ _ _ => .int _) pe_int))) (fun _ z => z)) (s_nil (fun _ z => z)))
      (s_cons (s_asgT (vs := [4, 5]) (d_var (i := 0) (by decide) (pv 0)) (pg_seq (n := 2) rfl (pgs_cons (pg_name (i := 4) sc_l_best.nd rfl (Or.inl rfl)) (pgs_cons (pg_name (i := 5) sc_l_best.nd rfl (Or.inl rfl)) pgs_nil))) (lg_seq (lgs_cons (lg_name (i := 4) (by decide) (by decide)) (lgs_cons (lg_name (i := 5) (by decide) (by decide)) lgs_nil))))
      (s_cons (s_if (PW.pt (d_or (d_not (d_test (d_call (by decide) G_l_is_whole (hr.mono (by decide)) (by rfl) m_l_is_whole F_l_is_whole.kp b_l_is_whole .nil (fun _ _ _ => .nil) pass0A (a_cons (d_var (i := 4) (by decide) (pv 4)) a_nil)))) (d_or (d_not (d_test (d_call (by decide) G_l_is_coins (hr.mono (by decide)) (by rfl) m_l_is_coins F_l_is_coins.kp b_l_is_coins .nil (fun _ _ _ => .nil) pass0A (a_cons (d_var (i := 5) (by decide) (pv 5)) a_nil)))) (d_or (d_tcmp (op_neD hr.units) l_ne (toV (d_callB call_len3 c_len (by rfl) T.n_len (by decide +kernel) (v_cons (toV (d_var (i := 5) (by decide) (pv 5))) v_nil))) (toV (d_var (i := 1) (by decide) (pv 1))) (nomark _)) (d_or1 (d_tcmp (op_neD hr.units) l_ne (toV (d_callB (cr_sumE rfl) c_sum (by rfl) T.n_sum (by decide +kernel) (v_cons (toV (d_var (i := 5) (by decide) (pv 5))) v_nil))) (toV (d_var (i := 4) (by decide) (pv 4))) (nomark _))))))) (s_one (s_ret (O2 := []) (fun _ z => nomatch z) (d_neg (d_c (y := .int 1) (fun _ _ _ => .int _) pe_int))) (fun _ z => z)) (s_nil (fun _ z => z)))
      (s_cons (s_if (PW.pt (d_or (d_not (d_test (d_call (by decide) G_l_serves (hr.mono (by decide)) (by rfl) m_l_serves F_l_serves.kp b_l_serves .nil (fun _ _ _ => .nil) pass0A (a_cons (d_var (i := 5) (by decide) (pv 5)) (a_cons (d_var (i := 3) (by decide) (pv 3)) a_nil))))) (d_or1 (d_tcmp op_gt l_gt (toV (d_lenSet rfl (by rfl) T.n_len (by rfl) T.n_set (v_cons (toV (d_var (i := 5) (by decide) (pv 5))) v_nil))) (toV (d_var (i := 2) (by decide) (pv 2))) (nomark _))))) (s_one (s_ret (O2 := []) (fun _ z => nomatch z) (d_neg (d_c (y := .int 1) (fun _ _ _ => .int _) pe_int))) (fun _ z => z)) (s_nil (fun _ z => z)))
      (s_one (s_ret (O2 := []) (fun _ z => nomatch z) (d_var (i := 4) (by decide) (pv 4))) (by decide))))))) ?_ n0_l_best
  rintro ds P ⟨r, n, u, p, rfl, p0, p1, hn, hb, q⟩
  have hl := hb.len
  refine sq_cut fun R eR => ?_
  simp only [fLenSet, fMul3, dTr, tru, dAsgT, gS, dMake2, dCBK, fMinD, dCallG, fRepr, fEqS, dSq, dAsg, dNx, dExp, dRet, dRetN, dIfS, dBk, dCt, dAppend, dInsert, dRemove, dPopAt, dSetAt, dRaise, dRaise0, dRaiseL, dVar, dC, dOp, dT, dChain, dNotT, dAndT, dOrT, dAndV, dOrV, dNotV, dIf, dNeg, dNil, dCons, dCB, dTup, dLst, dCall, dCallV, dCallF, dFld, dNoPart, dPart, dSl, dIsSeq, dBM, dTM, dXf, dYes, fSub, fDiv, fMod, fPow, fAdd, fCat, fMul, fRep, fLt, fLe, fGt, fGe, fIs, fIsNot, fIx, fSl, fSlL, fLen, fList, fTuple, fMax2, fMin2, fMax, fMin, fAbs, fInt, fIsi, fIsiN, fIsiC, gN, gT, gT0, gTC, diSeq, diRng1, diRng2, diEnum, dstart, De.off, exD, suiteD, List.map_cons, List.map_nil, List.length_cons, List.length_nil, Nat.reduceAdd, Nat.reduceSub, List.replicate_succ, List.replicate_zero, List.getElem?_cons_zero, List.getElem?_cons_succ, List.set_cons_zero, List.set_cons_succ, Option.some.injEq, exists_eq_left', exists_eq_left, exists_and_left, D.int.injEq, D.bl.injEq, D.lst.injEq, D.tup.injEq, D.str.injEq, D.exc.injEq, List.cons.injEq, and_true, true_and, List.nil_append, List.cons_append, List.append_nil, reduceCtorEq, false_and, exists_false, or_false, false_or, or_true, true_or, and_false, Int.reduceNeg, decide_eq_true_eq, Bool.not_eq_true', decide_eq_false_iff_not, and_assoc, Nat.zero_le, List.length_map, Int.zero_add, Int.reduceLT, Int.reduceLE, Int.reducePow, Int.reduceToNat, Int.reduceAdd, Int.reduceMul, Int.reduceSub, Nat.reduceLeDiff, fEq_ints, fNe_ints, fEq_lstsI, fNe_lstsI, fEq_tupsI, fNe_tupsI, noLA_ints, fSum_lst, fSum_tup, fSorted_lst, fSorted_tup, ↓reduceIte, Bool.false_eq_true, Bool.true_eq_false, false_implies, true_implies, implies_true, forall_const, Bool.not_true, Bool.not_false]
  refine ⟨true, rfl, ?_⟩
  simp only [fLenSet, fMul3, dTr, tru, dAsgT, gS, dMake2, dCBK, fMinD, dCallG, fRepr, fEqS, dSq, dAsg, dNx, dExp, dRet, dRetN, dIfS, dBk, dCt, dAppend, dInsert, dRemove, dPopAt, dSetAt, dRaise, dRaise0, dRaiseL, dVar, dC, dOp, dT, dChain, dNotT, dAndT, dOrT, dAndV, dOrV, dNotV, dIf, dNeg, dNil, dCons, dCB, dTup, dLst, dCall, dCallV, dCallF, dFld, dNoPart, dPart, dSl, dIsSeq, dBM, dTM, dXf, dYes, fSub, fDiv, fMod, fPow, fAdd, fCat, fMul, fRep, fLt, fLe, fGt, fGe, fIs, fIsNot, fIx, fSl, fSlL, fLen, fList, fTuple, fMax2, fMin2, fMax, fMin, fAbs, fInt, fIsi, fIsiN, fIsiC, gN, gT, gT0, gTC, diSeq, diRng1, diRng2, diEnum, dstart, De.off, exD, suiteD, List.map_cons, List.map_nil, List.length_cons, List.length_nil, Nat.reduceAdd, Nat.reduceSub, List.replicate_succ, List.replicate_zero, List.getElem?_cons_zero, List.getElem?_cons_succ, List.set_cons_zero, List.set_cons_succ, Option.some.injEq, exists_eq_left', exists_eq_left, exists_and_left, D.int.injEq, D.bl.injEq, D.lst.injEq, D.tup.injEq, D.str.injEq, D.exc.injEq, List.cons.injEq, and_true, true_and, List.nil_append, List.cons_append, List.append_nil, reduceCtorEq, false_and, exists_false, or_false, false_or, or_true, true_or, and_false, Int.reduceNeg, decide_eq_true_eq, Bool.not_eq_true', decide_eq_false_iff_not, and_assoc, Nat.zero_le, List.length_map, Int.zero_add, Int.reduceLT, Int.reduceLE, Int.reducePow, Int.reduceToNat, Int.reduceAdd, Int.reduceMul, Int.reduceSub, Nat.reduceLeDiff, fEq_ints, fNe_ints, fEq_lstsI, fNe_lstsI, fEq_tupsI, fNe_tupsI, noLA_ints, fSum_lst, fSum_tup, fSorted_lst, fSorted_tup, ↓reduceIte, Bool.false_eq_true, Bool.true_eq_false, false_implies, true_implies, implies_true, forall_const, Bool.not_true, Bool.not_false]
  rw [if_neg (by decide)]
  subst eR
  refine sq_cut fun R eR => ?_
  simp only [fLenSet, fMul3, dTr, tru, dAsgT, gS, dMake2, dCBK, fMinD, dCallG, fRepr, fEqS, dSq, dAsg, dNx, dExp, dRet, dRetN, dIfS, dBk, dCt, dAppend, dInsert, dRemove, dPopAt, dSetAt, dRaise, dRaise0, dRaiseL, dVar, dC, dOp, dT, dChain, dNotT, dAndT, dOrT, dAndV, dOrV, dNotV, dIf, dNeg, dNil, dCons, dCB, dTup, dLst, dCall, dCallV, dCallF, dFld, dNoPart, dPart, dSl, dIsSeq, dBM, dTM, dXf, dYes, fSub, fDiv, fMod, fPow, fAdd, fCat, fMul, fRep, fLt, fLe, fGt, fGe, fIs, fIsNot, fIx, fSl, fSlL, fLen, fList, fTuple, fMax2, fMin2, fMax, fMin, fAbs, fInt, fIsi, fIsiN, fIsiC, gN, gT, gT0, gTC, diSeq, diRng1, diRng2, diEnum, dstart, De.off, exD, suiteD, List.map_cons, List.map_nil, List.length_cons, List.length_nil, Nat.reduceAdd, Nat.reduceSub, List.replicate_succ, List.replicate_zero, List.getElem?_cons_zero, List.getElem?_cons_succ, List.set_cons_zero, List.set_cons_succ, Option.some.injEq, exists_eq_left', exists_eq_left, exists_and_left, D.int.injEq, D.bl.injEq, D.lst.injEq, D.tup.injEq, D.str.injEq, D.exc.injEq, List.cons.injEq, and_true, true_and, List.nil_append, List.cons_append, List.append_nil, reduceCtorEq, false_and, exists_false, or_false, false_or, or_true, true_or, and_false, Int.reduceNeg, decide_eq_true_eq, Bool.not_eq_true', decide_eq_false_iff_not, and_assoc, Nat.zero_le, List.length_map, Int.zero_add, Int.reduceLT, Int.reduceLE, Int.reducePow, Int.reduceToNat, Int.reduceAdd, Int.reduceMul, Int.reduceSub, Nat.reduceLeDiff, fEq_ints, fNe_ints, fEq_lstsI, fNe_lstsI, fEq_tupsI, fNe_tupsI, noLA_ints, fSum_lst, fSum_tup, fSorted_lst, fSorted_tup, ↓reduceIte, Bool.false_eq_true, Bool.true_eq_false, false_implies, true_implies, implies_true, forall_const, Bool.not_true, Bool.not_false]
  refine ⟨_, rfl, rfl, ?_⟩
  simp only [fLenSet, fMul3, dTr, tru, dAsgT, gS, dMake2, dCBK, fMinD, dCallG, fRepr, fEqS, dSq, dAsg, dNx, dExp, dRet, dRetN, dIfS, dBk, dCt, dAppend, dInsert, dRemove, dPopAt, dSetAt, dRaise, dRaise0, dRaiseL, dVar, dC, dOp, dT, dChain, dNotT, dAndT, dOrT, dAndV, dOrV, dNotV, dIf, dNeg, dNil, dCons, dCB, dTup, dLst, dCall, dCallV, dCallF, dFld, dNoPart, dPart, dSl, dIsSeq, dBM, dTM, dXf, dYes, fSub, fDiv, fMod, fPow, fAdd, fCat, fMul, fRep, fLt, fLe, fGt, fGe, fIs, fIsNot, fIx, fSl, fSlL, fLen, fList, fTuple, fMax2, fMin2, fMax, fMin, fAbs, fInt, fIsi, fIsiN, fIsiC, gN, gT, gT0, gTC, diSeq, diRng1, diRng2, diEnum, dstart, De.off, exD, suiteD, List.map_cons, List.map_nil, List.length_cons, List.length_nil, Nat.reduceAdd, Nat.reduceSub, List.replicate_succ, List.replicate_zero, List.getElem?_cons_zero, List.getElem?_cons_succ, List.set_cons_zero, List.set_cons_succ, Option.some.injEq, exists_eq_left', exists_eq_left, exists_and_left, D.int.injEq, D.bl.injEq, D.lst.injEq, D.tup.injEq, D.str.injEq, D.exc.injEq, List.cons.injEq, and_true, true_and, List.nil_append, List.cons_append, List.append_nil, reduceCtorEq, false_and, exists_false, or_false, false_or, or_true, true_or, and_false, Int.reduceNeg, decide_eq_true_eq, Bool.not_eq_true', decide_eq_false_iff_not, and_assoc, Nat.zero_le, List.length_map, Int.zero_add, Int.reduceLT, Int.reduceLE, Int.reducePow, Int.reduceToNat, Int.reduceAdd, Int.reduceMul, Int.reduceSub, Nat.reduceLeDiff, fEq_ints, fNe_ints, fEq_lstsI, fNe_lstsI, fEq_tupsI, fNe_tupsI, noLA_ints, fSum_lst, fSum_tup, fSorted_lst, fSorted_tup, ↓reduceIte, Bool.false_eq_true, Bool.true_eq_false, false_implies, true_implies, implies_true, forall_const, Bool.not_true, Bool.not_false]
  subst eR
  refine sq_cut fun R eR => ?_
  simp only [fLenSet, fMul3, dTr, tru, dAsgT, gS, dMake2, dCBK, fMinD, dCallG, fRepr, fEqS, dSq, dAsg, dNx, dExp, dRet, dRetN, dIfS, dBk, dCt, dAppend, dInsert, dRemove, dPopAt, dSetAt, dRaise, dRaise0, dRaiseL, dVar, dC, dOp, dT, dChain, dNotT, dAndT, dOrT, dAndV, dOrV, dNotV, dIf, dNeg, dNil, dCons, dCB, dTup, dLst, dCall, dCallV, dCallF, dFld, dNoPart, dPart, dSl, dIsSeq, dBM, dTM, dXf, dYes, fSub, fDiv, fMod, fPow, fAdd, fCat, fMul, fRep, fLt, fLe, fGt, fGe, fIs, fIsNot, fIx, fSl, fSlL, fLen, fList, fTuple, fMax2, fMin2, fMax, fMin, fAbs, fInt, fIsi, fIsiN, fIsiC, gN, gT, gT0, gTC, diSeq, diRng1, diRng2, diEnum, dstart, De.off, exD, suiteD, List.map_cons, List.map_nil, List.length_cons, List.length_nil, Nat.reduceAdd, Nat.reduceSub, List.replicate_succ, List.replicate_zero, List.getElem?_cons_zero, List.getElem?_cons_succ, List.set_cons_zero, List.set_cons_succ, Option.some.injEq, exists_eq_left', exists_eq_left, exists_and_left, D.int.injEq, D.bl.injEq, D.lst.injEq, D.tup.injEq, D.str.injEq, D.exc.injEq, List.cons.injEq, and_true, true_and, List.nil_append, List.cons_append, List.append_nil, reduceCtorEq, false_and, exists_false, or_false, false_or, or_true, true_or, and_false, Int.reduceNeg, decide_eq_true_eq, Bool.not_eq_true', decide_eq_false_iff_not, and_assoc, Nat.zero_le, List.length_map, Int.zero_add, Int.reduceLT, Int.reduceLE, Int.reducePow, Int.reduceToNat, Int.reduceAdd, Int.reduceMul, Int.reduceSub, Nat.reduceLeDiff, fEq_ints, fNe_ints, fEq_lstsI, fNe_lstsI, fEq_tupsI, fNe_tupsI, noLA_ints, fSum_lst, fSum_tup, fSorted_lst, fSorted_tup, ↓reduceIte, Bool.false_eq_true, Bool.true_eq_false, false_implies, true_implies, implies_true, forall_const, Bool.not_true, Bool.not_false, s_d_l_is_whole, s_d_l_is_coins]
  refine ⟨rfl, ?_⟩
  rw [if_neg (show ¬ isNum (.int r.sum) = false from fun z => nomatch z)]
  refine ⟨r, rfl, by omega, hb.row.rise, hb.row.low, ?_⟩
  rw [if_neg (by omega), if_neg (by simp)]
  subst eR
  refine sq_cut fun R eR => ?_
  simp only [fLenSet, fMul3, dTr, tru, dAsgT, gS, dMake2, dCBK, fMinD, dCallG, fRepr, fEqS, dSq, dAsg, dNx, dExp, dRet, dRetN, dIfS, dBk, dCt, dAppend, dInsert, dRemove, dPopAt, dSetAt, dRaise, dRaise0, dRaiseL, dVar, dC, dOp, dT, dChain, dNotT, dAndT, dOrT, dAndV, dOrV, dNotV, dIf, dNeg, dNil, dCons, dCB, dTup, dLst, dCall, dCallV, dCallF, dFld, dNoPart, dPart, dSl, dIsSeq, dBM, dTM, dXf, dYes, fSub, fDiv, fMod, fPow, fAdd, fCat, fMul, fRep, fLt, fLe, fGt, fGe, fIs, fIsNot, fIx, fSl, fSlL, fLen, fList, fTuple, fMax2, fMin2, fMax, fMin, fAbs, fInt, fIsi, fIsiN, fIsiC, gN, gT, gT0, gTC, diSeq, diRng1, diRng2, diEnum, dstart, De.off, exD, suiteD, List.map_cons, List.map_nil, List.length_cons, List.length_nil, Nat.reduceAdd, Nat.reduceSub, List.replicate_succ, List.replicate_zero, List.getElem?_cons_zero, List.getElem?_cons_succ, List.set_cons_zero, List.set_cons_succ, Option.some.injEq, exists_eq_left', exists_eq_left, exists_and_left, D.int.injEq, D.bl.injEq, D.lst.injEq, D.tup.injEq, D.str.injEq, D.exc.injEq, List.cons.injEq, and_true, true_and, List.nil_append, List.cons_append, List.append_nil, reduceCtorEq, false_and, exists_false, or_false, false_or, or_true, true_or, and_false, Int.reduceNeg, decide_eq_true_eq, Bool.not_eq_true', decide_eq_false_iff_not, and_assoc, Nat.zero_le, List.length_map, Int.zero_add, Int.reduceLT, Int.reduceLE, Int.reducePow, Int.reduceToNat, Int.reduceAdd, Int.reduceMul, Int.reduceSub, Nat.reduceLeDiff, fEq_ints, fNe_ints, fEq_lstsI, fNe_lstsI, fEq_tupsI, fNe_tupsI, noLA_ints, fSum_lst, fSum_tup, fSorted_lst, fSorted_tup, ↓reduceIte, Bool.false_eq_true, Bool.true_eq_false, false_implies, true_implies, implies_true, forall_const, Bool.not_true, Bool.not_false, s_d_l_serves]
  refine ⟨r, rfl, by omega, p0, p1, hb.row, ⟨r, rfl, by omega, fun ks h1 h2 => ?_⟩⟩
  have := hb.un
  rw [unl_of h1 h2]
  rw [if_neg (by omega)]
  subst eR
  simp only [fLenSet, fMul3, dTr, tru, dAsgT, gS, dMake2, dCBK, fMinD, dCallG, fRepr, fEqS, dSq, dAsg, dNx, dExp, dRet, dRetN, dIfS, dBk, dCt, dAppend, dInsert, dRemove, dPopAt, dSetAt, dRaise, dRaise0, dRaiseL, dVar, dC, dOp, dT, dChain, dNotT, dAndT, dOrT, dAndV, dOrV, dNotV, dIf, dNeg, dNil, dCons, dCB, dTup, dLst, dCall, dCallV, dCallF, dFld, dNoPart, dPart, dSl, dIsSeq, dBM, dTM, dXf, dYes, fSub, fDiv, fMod, fPow, fAdd, fCat, fMul, fRep, fLt, fLe, fGt, fGe, fIs, fIsNot, fIx, fSl, fSlL, fLen, fList, fTuple, fMax2, fMin2, fMax, fMin, fAbs, fInt, fIsi, fIsiN, fIsiC, gN, gT, gT0, gTC, diSeq, diRng1, diRng2, diEnum, dstart, De.off, exD, suiteD, List.map_cons, List.map_nil, List.length_cons, List.length_nil, Nat.reduceAdd, Nat.reduceSub, List.replicate_succ, List.replicate_zero, List.getElem?_cons_zero, List.getElem?_cons_succ, List.set_cons_zero, List.set_cons_succ, Option.some.injEq, exists_eq_left', exists_eq_left, exists_and_left, D.int.injEq, D.bl.injEq, D.lst.injEq, D.tup.injEq, D.str.injEq, D.exc.injEq, List.cons.injEq, and_true, true_and, List.nil_append, List.cons_append, List.append_nil, reduceCtorEq, false_and, exists_false, or_false, false_or, or_true, true_or, and_false, Int.reduceNeg, decide_eq_true_eq, Bool.not_eq_true', decide_eq_false_iff_not, and_assoc, Nat.zero_le, List.length_map, Int.zero_add, Int.reduceLT, Int.reduceLE, Int.reducePow, Int.reduceToNat, Int.reduceAdd, Int.reduceMul, Int.reduceSub, Nat.reduceLeDiff, fEq_ints, fNe_ints, fEq_lstsI, fNe_lstsI, fEq_tupsI, fNe_tupsI, noLA_ints, fSum_lst, fSum_tup, fSorted_lst, fSorted_tup, ↓reduceIte, Bool.false_eq_true, Bool.true_eq_false, false_implies, true_implies, implies_true, forall_const, Bool.not_true, Bool.not_false]
  exact q

end
end My
set_option Elab.async false
set_option linter.all false
set_option maxRecDepth 100000
set_option maxHeartbeats 4000000
namespace My
open PySem PySem.Spec PyProof.Rows L2 Gen DL
section
variable {P : Program} {w : World} {K : PySem.W.Frag} {mg : Str → Option Value} {base : Heap} { cBadPeople cBadCount cBadTotal cBadCoin cBadUnlike : Addr}
theorem fEq_ne {x y : D} {P : D → Prop} (h1 : D.shp 60 x = true) (h2 : D.shp 60 y = true) (h : PyData.eqv x.pd y.pd = false) (q : P (.bl false)) : fEq x y P := ⟨h1, h2, by rw [h]; exact q⟩
def s_d_l_told : SpD := fun ds P _ => ∃ (nm : Str) (x y : D), ds = [.str nm, x, y] ∧ kn y = true ∧
  ((nm = "coin" ∧ kn x = true ∧ ((whole x 0 1000000000 = false ∧ P (.tup [.str "total", .int 1000000000])) ∨ (whole x 0 1000000000 = true ∧ whole y 2 5 = false ∧ P (.tup [.str "people", .int 0])))) ∨
   ((nm = "least" ∨ nm = "fewest") ∧ kn x = true ∧ ((whole x 1 1000000000 = false ∧ P (.tup [.str "coin", .int 0])) ∨ (whole x 1 1000000000 = true ∧ whole y 2 5 = false ∧ P (.tup [.str "people", .int 0])))) ∨
   (nm = "unlike" ∧ ∃ a b : D, x = .tup [a, b] ∧ kn a = true ∧ kn b = true ∧ ((whole a 0 12 = false ∧ P (.tup [.str "count", .int 12])) ∨ (whole a 0 12 = true ∧ whole b 1 12 = false ∧ P (.tup [.str "unlike", .int 0])) ∨ (whole a 0 12 = true ∧ whole b 1 12 = true ∧ whole y 2 5 = false ∧ P (.tup [.str "people", .int 0])))))
theorem len_d_l_told : ∀ ds P er, s_d_l_told ds P er → ds.length = 3 := by rintro _ _ _ ⟨_, _, _, rfl, _⟩; rfl
theorem n0_l_told : ∀ ds P er, s_d_l_told ds P er → s_d_l_told ds P noX := fun _ _ _ h => h
theorem ok_l_told {f : Addr} {fd : FuncData} (F : Fun K "_law_told" "_law_told" s_l_told f fd) (T : Txt K mg cBadPeople cBadCount cBadTotal cBadCoin cBadUnlike) : FnOk P w K mg base CX0 5 f fd ps_l_told (spOf (s_d_l_told)) := by
  obtain ⟨f_greatest_unlike, fd_greatest_unlike, F_greatest_unlike, m_greatest_unlike, b_greatest_unlike⟩ := T.d_greatest_unlike
  have G_greatest_unlike : FnOk P w K mg base (L2.CX P w) 4 f_greatest_unlike fd_greatest_unlike ps_greatest_unlike (spOf (s_d_greatest_unlike cBadUnlike cBadCount cBadPeople)) := ok_greatest_unlike F_greatest_unlike T
  obtain ⟨f_greatest_coin, fd_greatest_coin, F_greatest_coin, m_greatest_coin, b_greatest_coin⟩ := T.d_greatest_coin
  have G_greatest_coin : FnOk P w K mg base (L2.CX P w) 4 f_greatest_coin fd_greatest_coin ps_greatest_coin (spOf (s_d_greatest_coin cBadTotal cBadPeople)) := ok_greatest_coin F_greatest_coin T
  obtain ⟨f_least_total_with, fd_least_total_with, F_least_total_with, m_least_total_with, b_least_total_with⟩ := T.d_least_total_with
  have G_least_total_with : FnOk P w K mg base (L2.CX P w) 4 f_least_total_with fd_least_total_with ps_least_total_with (spOf (s_d_least_total_with cBadCoin cBadPeople)) := ok_least_total_with F_least_total_with T
  obtain ⟨f_fewest_with, fd_fewest_with, F_fewest_with, m_fewest_with, b_fewest_with⟩ := T.d_fewest_with
  have G_fewest_with : FnOk P w K mg base (L2.CX P w) 4 f_fewest_with fd_fewest_with ps_fewest_with (spOf (s_d_fewest_with cBadCoin cBadPeople)) := ok_fewest_with F_fewest_with T
  refine fn0_d (k := 4) (Oe := []) F sc_l_told [] _ (len_d_l_told) (by decide) (fun cdv A outer sh H E hr => (s_one (s_try (K := K) (l := (cBadCount, some 3, _) :: (cBadTotal, some 3, _) :: (cBadCoin, none, _) :: (cBadUnlike, none, _) :: (cBadPeople, none, _) :: []) rfl rfl rfl takes0 (by decide) (hi_some (by decide) (hi_some (by decide) (hi_none (hi_none (hi_none hi_nil))))) (fun W pn xe tk po => (s_cons (s_if (d_tcmp (op_eqD hr.units) l_eq (toV (d_var (i := 0) (by decide) (pv 0))) (toV (d_c (y := .str "coin") (fun _ _ _ => .str _) pe_str)) (nomark _)) (s_one (s_ret (O2 := []) (fun _ z => nomatch z) (d_call (by decide) G_greatest_coin (hr.mono (by decide)) (by rfl) m_greatest_coin F_greatest_coin.kp b_greatest_coin .nil (fun _ _ _ => .nil) (fun σ => L2.passAt tk σ) (a_cons (d_var (i := 1) (by decide) (pv 1)) (a_cons (d_var (i := 2) (by decide) (pv 2)) a_nil)))) (fun _ z => z)) (s_nil (fun _ z => z)))
      (s_cons (s_if (d_tcmp (op_eqD hr.units) l_eq (toV (d_var (i := 0) (by decide) (pv 0))) (toV (d_c (y := .str "least") (fun _ _ _ => .str _) pe_str)) (nomark _)) (s_one (s_ret (O2 := []) (fun _ z => nomatch z) (d_call (by decide) G_least_total_with (hr.mono (by decide)) (by rfl) m_least_total_with F_least_total_with.kp b_least_total_with .nil (fun _ _ _ => .nil) (fun σ => L2.passAt tk σ) (a_cons (d_var (i := 1) (by decide) (pv 1)) (a_cons (d_var (i := 2) (by decide) (pv 2)) a_nil)))) (fun _ z => z)) (s_nil (fun _ z => z)))
      (s_cons (s_if (d_tcmp (op_eqD hr.units) l_eq (toV (d_var (i := 0) (by decide) (pv 0))) (toV (d_c (y := .str "fewest") (fun _ _ _ => .str _) pe_str)) (nomark _)) (s_one (s_ret (O2 := []) (fun _ z => nomatch z) (d_call (by decide) G_fewest_with (hr.mono (by decide)) (by rfl) m_fewest_with F_fewest_with.kp b_fewest_with .nil (fun _ _ _ => .nil) (fun σ => L2.passAt tk σ) (a_cons (d_var (i := 1) (by decide) (pv 1)) (a_cons (d_var (i := 2) (by decide) (pv 2)) a_nil)))) (fun _ z => z)) (s_nil (fun _ z => z)))
      (s_one (s_ret (O2 := []) (fun _ z => nomatch z) (d_call (by decide) G_greatest_unlike (hr.mono (by decide)) (by rfl) m_greatest_unlike F_greatest_unlike.kp b_greatest_unlike .nil (fun _ _ _ => .nil) (fun σ => L2.passAt tk σ) (a_cons (d_ix ix_seq l_ix (toV (d_var (i := 1) (by decide) (pv 1))) (toV (d_c (y := .int 0) (fun _ _ _ => .int _) pe_int)) (fun _ _ => rfl)) (a_cons (d_ix ix_seq l_ix (toV (d_var (i := 1) (by decide) (pv 1))) (toV (d_c (y := .int 1) (fun _ _ _ => .int _) pe_int)) (fun _ _ => rfl)) (a_cons (d_var (i := 2) (by decide) (pv 2)) a_nil))))) (fun _ z => z)))))) (HdsX.asn (i := 3) ⟨rfl, by decide, Or.inl T.y_BadCount.gC⟩ sc_l_told.nd rfl rfl (fun a oe cls d pn hz hf => (su_of hz fun C hz => (s_one (s_ret (O2 := []) (fun _ z => nomatch z) (d_tup (a_cons (d_c (y := .str "count") (fun _ _ _ => .str _) pe_str) (a_cons (d_xf T.x_BadCount T.f_BadCount_most hz hf (d_var (i := 3) (by decide) (pv 3))) a_nil)))) (fun _ z => z)))) (HdsX.asn (i := 3) ⟨rfl, by decide, Or.inl T.y_BadTotal.gC⟩ sc_l_told.nd rfl rfl (fun a oe cls d pn hz hf => (su_of hz fun C hz => (s_one (s_ret (O2 := []) (fun _ z => nomatch z) (d_tup (a_cons (d_c (y := .str "total") (fun _ _ _ => .str _) pe_str) (a_cons (d_xf T.x_BadTotal T.f_BadTotal_most hz hf (d_var (i := 3) (by decide) (pv 3))) a_nil)))) (fun _ z => z)))) (HdsX.one ⟨rfl, by decide, Or.inl T.y_BadCoin.gC⟩ (fun a oe cls d pn hz hf => (su_of hz fun C hz => (s_one (s_ret (O2 := []) (fun _ z => nomatch z) (d_tup (a_cons (d_c (y := .str "coin") (fun _ _ _ => .str _) pe_str) (a_cons (d_c (y := .int 0) (fun _ _ _ => .int _) pe_int) a_nil)))) (fun _ z => z)))) (HdsX.one ⟨rfl, by decide, Or.inl T.y_BadUnlike.gC⟩ (fun a oe cls d pn hz hf => (su_of hz fun C hz => (s_one (s_ret (O2 := []) (fun _ z => nomatch z) (d_tup (a_cons (d_c (y := .str "unlike") (fun _ _ _ => .str _) pe_str) (a_cons (d_c (y := .int 0) (fun _ _ _ => .int _) pe_int) a_nil)))) (fun _ z => z)))) (HdsX.one ⟨rfl, by decide, Or.inl T.y_BadPeople.gC⟩ (fun a oe cls d pn hz hf => (su_of hz fun C hz => (s_one (s_ret (O2 := []) (fun _ z => nomatch z) (d_tup (a_cons (d_c (y := .str "people") (fun _ _ _ => .str _) pe_str) (a_cons (d_c (y := .int 0) (fun _ _ _ => .int _) pe_int) a_nil)))) (fun _ z => z)))) HdsX.nil)))))) (by decide))) ?_ n0_l_told
  rintro ds P ⟨nm, x, y, rfl, hy, hq⟩
  have two : 2 ≤ sizeLine := by decide
  simp only [fLenSet, fMul3, dTr, tru, dAsgT, gS, dMake2, dCBK, fMinD, dCallG, fRepr, fEqS, dSq, dAsg, dNx, dExp, dRet, dRetN, dIfS, dBk, dCt, dAppend, dInsert, dRemove, dPopAt, dSetAt, dRaise, dRaise0, dRaiseL, dVar, dC, dOp, dT, dChain, dNotT, dAndT, dOrT, dAndV, dOrV, dNotV, dIf, dNeg, dNil, dCons, dCB, dTup, dLst, dCall, dCallV, dCallF, dFld, dNoPart, dPart, dSl, dIsSeq, dBM, dTM, dXf, dYes, fSub, fDiv, fMod, fPow, fAdd, fCat, fMul, fRep, fLt, fLe, fGt, fGe, fIs, fIsNot, fIx, fSl, fSlL, fLen, fList, fTuple, fMax2, fMin2, fMax, fMin, fAbs, fInt, fIsi, fIsiN, fIsiC, gN, gT, gT0, gTC, diSeq, diRng1, diRng2, diEnum, dstart, De.off, exD, suiteD, List.map_cons, List.map_nil, List.length_cons, List.length_nil, Nat.reduceAdd, Nat.reduceSub, List.replicate_succ, List.replicate_zero, List.getElem?_cons_zero, List.getElem?_cons_succ, List.set_cons_zero, List.set_cons_succ, Option.some.injEq, exists_eq_left', exists_eq_left, exists_and_left, D.int.injEq, D.bl.injEq, D.lst.injEq, D.tup.injEq, D.str.injEq, D.exc.injEq, List.cons.injEq, and_true, true_and, List.nil_append, List.cons_append, List.append_nil, reduceCtorEq, false_and, exists_false, or_false, false_or, or_true, true_or, and_false, Int.reduceNeg, decide_eq_true_eq, Bool.not_eq_true', decide_eq_false_iff_not, and_assoc, Nat.zero_le, List.length_map, Int.zero_add, Int.reduceLT, Int.reduceLE, Int.reducePow, Int.reduceToNat, Int.reduceAdd, Int.reduceMul, Int.reduceSub, Nat.reduceLeDiff, fEq_ints, fNe_ints, fEq_lstsI, fNe_lstsI, fEq_tupsI, fNe_tupsI, noLA_ints, fSum_lst, fSum_tup, fSorted_lst, fSorted_tup, ↓reduceIte, Bool.false_eq_true, Bool.true_eq_false, false_implies, true_implies, implies_true, forall_const, Bool.not_true, Bool.not_false, s_d_greatest_coin, s_d_least_total_with, s_d_fewest_with, s_d_greatest_unlike, dMix, xMix, T.m_BadCount_BadCount, T.m_BadTotal_BadTotal, T.m_BadTotal_BadCount, T.m_BadCoin_BadCoin, T.m_BadCoin_BadCount, T.m_BadCoin_BadTotal, T.m_BadUnlike_BadUnlike, T.m_BadUnlike_BadCount, T.m_BadUnlike_BadTotal, T.m_BadUnlike_BadCoin, T.m_BadPeople_BadPeople, T.m_BadPeople_BadCount, T.m_BadPeople_BadTotal, T.m_BadPeople_BadCoin, T.m_BadPeople_BadUnlike]
  have one_ : ∀ {y : D} {lo hi : Int} {c : Prop} (m : Int), whole y lo hi = false → y = .int m → lo ≤ m → m ≤ hi → c := fun m h e h1 h2 => by
    subst e
    simp [whole] at h
    omega
  have no : ∀ {y : D} {lo hi : Int} {c : Prop}, whole y lo hi = true → whole y lo hi = false → c := fun h1 h2 => by rw [h1] at h2; cases h2
  rcases hq with ⟨rfl, hx, hq⟩ | ⟨hn, hx, hq⟩ | ⟨rfl, a, b, rfl, ha, hb, hq⟩
  · refine fEq_self (by decide +kernel) ?_
    simp only [fLenSet, fMul3, dTr, tru, dAsgT, gS, dMake2, dCBK, fMinD, dCallG, fRepr, fEqS, dSq, dAsg, dNx, dExp, dRet, dRetN, dIfS, dBk, dCt, dAppend, dInsert, dRemove, dPopAt, dSetAt, dRaise, dRaise0, dRaiseL, dVar, dC, dOp, dT, dChain, dNotT, dAndT, dOrT, dAndV, dOrV, dNotV, dIf, dNeg, dNil, dCons, dCB, dTup, dLst, dCall, dCallV, dCallF, dFld, dNoPart, dPart, dSl, dIsSeq, dBM, dTM, dXf, dYes, fSub, fDiv, fMod, fPow, fAdd, fCat, fMul, fRep, fLt, fLe, fGt, fGe, fIs, fIsNot, fIx, fSl, fSlL, fLen, fList, fTuple, fMax2, fMin2, fMax, fMin, fAbs, fInt, fIsi, fIsiN, fIsiC, gN, gT, gT0, gTC, diSeq, diRng1, diRng2, diEnum, dstart, De.off, exD, suiteD, List.map_cons, List.map_nil, List.length_cons, List.length_nil, Nat.reduceAdd, Nat.reduceSub, List.replicate_succ, List.replicate_zero, List.getElem?_cons_zero, List.getElem?_cons_succ, List.set_cons_zero, List.set_cons_succ, Option.some.injEq, exists_eq_left', exists_eq_left, exists_and_left, D.int.injEq, D.bl.injEq, D.lst.injEq, D.tup.injEq, D.str.injEq, D.exc.injEq, List.cons.injEq, and_true, true_and, List.nil_append, List.cons_append, List.append_nil, reduceCtorEq, false_and, exists_false, or_false, false_or, or_true, true_or, and_false, Int.reduceNeg, decide_eq_true_eq, Bool.not_eq_true', decide_eq_false_iff_not, and_assoc, Nat.zero_le, List.length_map, Int.zero_add, Int.reduceLT, Int.reduceLE, Int.reducePow, Int.reduceToNat, Int.reduceAdd, Int.reduceMul, Int.reduceSub, Nat.reduceLeDiff, fEq_ints, fNe_ints, fEq_lstsI, fNe_lstsI, fEq_tupsI, fNe_tupsI, noLA_ints, fSum_lst, fSum_tup, fSorted_lst, fSorted_tup, ↓reduceIte, Bool.false_eq_true, Bool.true_eq_false, false_implies, true_implies, implies_true, forall_const, Bool.not_true, Bool.not_false]
    rcases hq with ⟨h1, q⟩ | ⟨h1, h2, q⟩
    · exact ⟨hx, hy, fun _ => ⟨_, rfl, two, q⟩, fun t e t0 t1 => one_ t h1 e t0 t1⟩
    · exact ⟨hx, hy, fun h => no h1 h, fun t e t0 t1 => ⟨fun _ => ⟨two, q⟩, fun p e p0 p1 => one_ p h2 e p0 p1⟩⟩
  · rcases hn with rfl | rfl
    · refine fEq_ne (by decide +kernel) (by decide +kernel) (by decide +kernel) ?_
      simp only [fLenSet, fMul3, dTr, tru, dAsgT, gS, dMake2, dCBK, fMinD, dCallG, fRepr, fEqS, dSq, dAsg, dNx, dExp, dRet, dRetN, dIfS, dBk, dCt, dAppend, dInsert, dRemove, dPopAt, dSetAt, dRaise, dRaise0, dRaiseL, dVar, dC, dOp, dT, dChain, dNotT, dAndT, dOrT, dAndV, dOrV, dNotV, dIf, dNeg, dNil, dCons, dCB, dTup, dLst, dCall, dCallV, dCallF, dFld, dNoPart, dPart, dSl, dIsSeq, dBM, dTM, dXf, dYes, fSub, fDiv, fMod, fPow, fAdd, fCat, fMul, fRep, fLt, fLe, fGt, fGe, fIs, fIsNot, fIx, fSl, fSlL, fLen, fList, fTuple, fMax2, fMin2, fMax, fMin, fAbs, fInt, fIsi, fIsiN, fIsiC, gN, gT, gT0, gTC, diSeq, diRng1, diRng2, diEnum, dstart, De.off, exD, suiteD, List.map_cons, List.map_nil, List.length_cons, List.length_nil, Nat.reduceAdd, Nat.reduceSub, List.replicate_succ, List.replicate_zero, List.getElem?_cons_zero, List.getElem?_cons_succ, List.set_cons_zero, List.set_cons_succ, Option.some.injEq, exists_eq_left', exists_eq_left, exists_and_left, D.int.injEq, D.bl.injEq, D.lst.injEq, D.tup.injEq, D.str.injEq, D.exc.injEq, List.cons.injEq, and_true, true_and, List.nil_append, List.cons_append, List.append_nil, reduceCtorEq, false_and, exists_false, or_false, false_or, or_true, true_or, and_false, Int.reduceNeg, decide_eq_true_eq, Bool.not_eq_true', decide_eq_false_iff_not, and_assoc, Nat.zero_le, List.length_map, Int.zero_add, Int.reduceLT, Int.reduceLE, Int.reducePow, Int.reduceToNat, Int.reduceAdd, Int.reduceMul, Int.reduceSub, Nat.reduceLeDiff, fEq_ints, fNe_ints, fEq_lstsI, fNe_lstsI, fEq_tupsI, fNe_tupsI, noLA_ints, fSum_lst, fSum_tup, fSorted_lst, fSorted_tup, ↓reduceIte, Bool.false_eq_true, Bool.true_eq_false, false_implies, true_implies, implies_true, forall_const, Bool.not_true, Bool.not_false]
      refine fEq_self (by decide +kernel) ?_
      simp only [fLenSet, fMul3, dTr, tru, dAsgT, gS, dMake2, dCBK, fMinD, dCallG, fRepr, fEqS, dSq, dAsg, dNx, dExp, dRet, dRetN, dIfS, dBk, dCt, dAppend, dInsert, dRemove, dPopAt, dSetAt, dRaise, dRaise0, dRaiseL, dVar, dC, dOp, dT, dChain, dNotT, dAndT, dOrT, dAndV, dOrV, dNotV, dIf, dNeg, dNil, dCons, dCB, dTup, dLst, dCall, dCallV, dCallF, dFld, dNoPart, dPart, dSl, dIsSeq, dBM, dTM, dXf, dYes, fSub, fDiv, fMod, fPow, fAdd, fCat, fMul, fRep, fLt, fLe, fGt, fGe, fIs, fIsNot, fIx, fSl, fSlL, fLen, fList, fTuple, fMax2, fMin2, fMax, fMin, fAbs, fInt, fIsi, fIsiN, fIsiC, gN, gT, gT0, gTC, diSeq, diRng1, diRng2, diEnum, dstart, De.off, exD, suiteD, List.map_cons, List.map_nil, List.length_cons, List.length_nil, Nat.reduceAdd, Nat.reduceSub, List.replicate_succ, List.replicate_zero, List.getElem?_cons_zero, List.getElem?_cons_succ, List.set_cons_zero, List.set_cons_succ, Option.some.injEq, exists_eq_left', exists_eq_left, exists_and_left, D.int.injEq, D.bl.injEq, D.lst.injEq, D.tup.injEq, D.str.injEq, D.exc.injEq, List.cons.injEq, and_true, true_and, List.nil_append, List.cons_append, List.append_nil, reduceCtorEq, false_and, exists_false, or_false, false_or, or_true, true_or, and_false, Int.reduceNeg, decide_eq_true_eq, Bool.not_eq_true', decide_eq_false_iff_not, and_assoc, Nat.zero_le, List.length_map, Int.zero_add, Int.reduceLT, Int.reduceLE, Int.reducePow, Int.reduceToNat, Int.reduceAdd, Int.reduceMul, Int.reduceSub, Nat.reduceLeDiff, fEq_ints, fNe_ints, fEq_lstsI, fNe_lstsI, fEq_tupsI, fNe_tupsI, noLA_ints, fSum_lst, fSum_tup, fSorted_lst, fSorted_tup, ↓reduceIte, Bool.false_eq_true, Bool.true_eq_false, false_implies, true_implies, implies_true, forall_const, Bool.not_true, Bool.not_false]
      rcases hq with ⟨h1, q⟩ | ⟨h1, h2, q⟩
      · exact ⟨hx, hy, fun _ => ⟨two, q⟩, fun t e t0 t1 => one_ t h1 e t0 t1⟩
      · exact ⟨hx, hy, fun h => no h1 h, fun t e t0 t1 => ⟨fun _ => ⟨two, q⟩, fun p e p0 p1 => one_ p h2 e p0 p1⟩⟩
    · refine fEq_ne (by decide +kernel) (by decide +kernel) (by decide +kernel) ?_
      simp only [fLenSet, fMul3, dTr, tru, dAsgT, gS, dMake2, dCBK, fMinD, dCallG, fRepr, fEqS, dSq, dAsg, dNx, dExp, dRet, dRetN, dIfS, dBk, dCt, dAppend, dInsert, dRemove, dPopAt, dSetAt, dRaise, dRaise0, dRaiseL, dVar, dC, dOp, dT, dChain, dNotT, dAndT, dOrT, dAndV, dOrV, dNotV, dIf, dNeg, dNil, dCons, dCB, dTup, dLst, dCall, dCallV, dCallF, dFld, dNoPart, dPart, dSl, dIsSeq, dBM, dTM, dXf, dYes, fSub, fDiv, fMod, fPow, fAdd, fCat, fMul, fRep, fLt, fLe, fGt, fGe, fIs, fIsNot, fIx, fSl, fSlL, fLen, fList, fTuple, fMax2, fMin2, fMax, fMin, fAbs, fInt, fIsi, fIsiN, fIsiC, gN, gT, gT0, gTC, diSeq, diRng1, diRng2, diEnum, dstart, De.off, exD, suiteD, List.map_cons, List.map_nil, List.length_cons, List.length_nil, Nat.reduceAdd, Nat.reduceSub, List.replicate_succ, List.replicate_zero, List.getElem?_cons_zero, List.getElem?_cons_succ, List.set_cons_zero, List.set_cons_succ, Option.some.injEq, exists_eq_left', exists_eq_left, exists_and_left, D.int.injEq, D.bl.injEq, D.lst.injEq, D.tup.injEq, D.str.injEq, D.exc.injEq, List.cons.injEq, and_true, true_and, List.nil_append, List.cons_append, List.append_nil, reduceCtorEq, false_and, exists_false, or_false, false_or, or_true, true_or, and_false, Int.reduceNeg, decide_eq_true_eq, Bool.not_eq_true', decide_eq_false_iff_not, and_assoc, Nat.zero_le, List.length_map, Int.zero_add, Int.reduceLT, Int.reduceLE, Int.reducePow, Int.reduceToNat, Int.reduceAdd, Int.reduceMul, Int.reduceSub, Nat.reduceLeDiff, fEq_ints, fNe_ints, fEq_lstsI, fNe_lstsI, fEq_tupsI, fNe_tupsI, noLA_ints, fSum_lst, fSum_tup, fSorted_lst, fSorted_tup, ↓reduceIte, Bool.false_eq_true, Bool.true_eq_false, false_implies, true_implies, implies_true, forall_const, Bool.not_true, Bool.not_false]
      refine fEq_ne (by decide +kernel) (by decide +kernel) (by decide +kernel) ?_
      simp only [fLenSet, fMul3, dTr, tru, dAsgT, gS, dMake2, dCBK, fMinD, dCallG, fRepr, fEqS, dSq, dAsg, dNx, dExp, dRet, dRetN, dIfS, dBk, dCt, dAppend, dInsert, dRemove, dPopAt, dSetAt, dRaise, dRaise0, dRaiseL, dVar, dC, dOp, dT, dChain, dNotT, dAndT, dOrT, dAndV, dOrV, dNotV, dIf, dNeg, dNil, dCons, dCB, dTup, dLst, dCall, dCallV, dCallF, dFld, dNoPart, dPart, dSl, dIsSeq, dBM, dTM, dXf, dYes, fSub, fDiv, fMod, fPow, fAdd, fCat, fMul, fRep, fLt, fLe, fGt, fGe, fIs, fIsNot, fIx, fSl, fSlL, fLen, fList, fTuple, fMax2, fMin2, fMax, fMin, fAbs, fInt, fIsi, fIsiN, fIsiC, gN, gT, gT0, gTC, diSeq, diRng1, diRng2, diEnum, dstart, De.off, exD, suiteD, List.map_cons, List.map_nil, List.length_cons, List.length_nil, Nat.reduceAdd, Nat.reduceSub, List.replicate_succ, List.replicate_zero, List.getElem?_cons_zero, List.getElem?_cons_succ, List.set_cons_zero, List.set_cons_succ, Option.some.injEq, exists_eq_left', exists_eq_left, exists_and_left, D.int.injEq, D.bl.injEq, D.lst.injEq, D.tup.injEq, D.str.injEq, D.exc.injEq, List.cons.injEq, and_true, true_and, List.nil_append, List.cons_append, List.append_nil, reduceCtorEq, false_and, exists_false, or_false, false_or, or_true, true_or, and_false, Int.reduceNeg, decide_eq_true_eq, Bool.not_eq_true', decide_eq_false_iff_not, and_assoc, Nat.zero_le, List.length_map, Int.zero_add, Int.reduceLT, Int.reduceLE, Int.reducePow, Int.reduceToNat, Int.reduceAdd, Int.reduceMul, Int.reduceSub, Nat.reduceLeDiff, fEq_ints, fNe_ints, fEq_lstsI, fNe_lstsI, fEq_tupsI, fNe_tupsI, noLA_ints, fSum_lst, fSum_tup, fSorted_lst, fSorted_tup, ↓reduceIte, Bool.false_eq_true, Bool.true_eq_false, false_implies, true_implies, implies_true, forall_const, Bool.not_true, Bool.not_false]
      refine fEq_self (by decide +kernel) ?_
      simp only [fLenSet, fMul3, dTr, tru, dAsgT, gS, dMake2, dCBK, fMinD, dCallG, fRepr, fEqS, dSq, dAsg, dNx, dExp, dRet, dRetN, dIfS, dBk, dCt, dAppend, dInsert, dRemove, dPopAt, dSetAt, dRaise, dRaise0, dRaiseL, dVar, dC, dOp, dT, dChain, dNotT, dAndT, dOrT, dAndV, dOrV, dNotV, dIf, dNeg, dNil, dCons, dCB, dTup, dLst, dCall, dCallV, dCallF, dFld, dNoPart, dPart, dSl, dIsSeq, dBM, dTM, dXf, dYes, fSub, fDiv, fMod, fPow, fAdd, fCat, fMul, fRep, fLt, fLe, fGt, fGe, fIs, fIsNot, fIx, fSl, fSlL, fLen, fList, fTuple, fMax2, fMin2, fMax, fMin, fAbs, fInt, fIsi, fIsiN, fIsiC, gN, gT, gT0, gTC, diSeq, diRng1, diRng2, diEnum, dstart, De.off, exD, suiteD, List.map_cons, List.map_nil, List.length_cons, List.length_nil, Nat.reduceAdd, Nat.reduceSub, List.replicate_succ, List.replicate_zero, List.getElem?_cons_zero, List.getElem?_cons_succ, List.set_cons_zero, List.set_cons_succ, Option.some.injEq, exists_eq_left', exists_eq_left, exists_and_left, D.int.injEq, D.bl.injEq, D.lst.injEq, D.tup.injEq, D.str.injEq, D.exc.injEq, List.cons.injEq, and_true, true_and, List.nil_append, List.cons_append, List.append_nil, reduceCtorEq, false_and, exists_false, or_false, false_or, or_true, true_or, and_false, Int.reduceNeg, decide_eq_true_eq, Bool.not_eq_true', decide_eq_false_iff_not, and_assoc, Nat.zero_le, List.length_map, Int.zero_add, Int.reduceLT, Int.reduceLE, Int.reducePow, Int.reduceToNat, Int.reduceAdd, Int.reduceMul, Int.reduceSub, Nat.reduceLeDiff, fEq_ints, fNe_ints, fEq_lstsI, fNe_lstsI, fEq_tupsI, fNe_tupsI, noLA_ints, fSum_lst, fSum_tup, fSorted_lst, fSorted_tup, ↓reduceIte, Bool.false_eq_true, Bool.true_eq_false, false_implies, true_implies, implies_true, forall_const, Bool.not_true, Bool.not_false]
      rcases hq with ⟨h1, q⟩ | ⟨h1, h2, q⟩
      · exact ⟨hx, hy, fun _ => ⟨two, q⟩, fun t e t0 t1 => one_ t h1 e t0 t1⟩
      · exact ⟨hx, hy, fun h => no h1 h, fun t e t0 t1 => ⟨fun _ => ⟨two, q⟩, fun p e p0 p1 => one_ p h2 e p0 p1⟩⟩
  · refine fEq_ne (by decide +kernel) (by decide +kernel) (by decide +kernel) ?_
    simp only [fLenSet, fMul3, dTr, tru, dAsgT, gS, dMake2, dCBK, fMinD, dCallG, fRepr, fEqS, dSq, dAsg, dNx, dExp, dRet, dRetN, dIfS, dBk, dCt, dAppend, dInsert, dRemove, dPopAt, dSetAt, dRaise, dRaise0, dRaiseL, dVar, dC, dOp, dT, dChain, dNotT, dAndT, dOrT, dAndV, dOrV, dNotV, dIf, dNeg, dNil, dCons, dCB, dTup, dLst, dCall, dCallV, dCallF, dFld, dNoPart, dPart, dSl, dIsSeq, dBM, dTM, dXf, dYes, fSub, fDiv, fMod, fPow, fAdd, fCat, fMul, fRep, fLt, fLe, fGt, fGe, fIs, fIsNot, fIx, fSl, fSlL, fLen, fList, fTuple, fMax2, fMin2, fMax, fMin, fAbs, fInt, fIsi, fIsiN, fIsiC, gN, gT, gT0, gTC, diSeq, diRng1, diRng2, diEnum, dstart, De.off, exD, suiteD, List.map_cons, List.map_nil, List.length_cons, List.length_nil, Nat.reduceAdd, Nat.reduceSub, List.replicate_succ, List.replicate_zero, List.getElem?_cons_zero, List.getElem?_cons_succ, List.set_cons_zero, List.set_cons_succ, Option.some.injEq, exists_eq_left', exists_eq_left, exists_and_left, D.int.injEq, D.bl.injEq, D.lst.injEq, D.tup.injEq, D.str.injEq, D.exc.injEq, List.cons.injEq, and_true, true_and, List.nil_append, List.cons_append, List.append_nil, reduceCtorEq, false_and, exists_false, or_false, false_or, or_true, true_or, and_false, Int.reduceNeg, decide_eq_true_eq, Bool.not_eq_true', decide_eq_false_iff_not, and_assoc, Nat.zero_le, List.length_map, Int.zero_add, Int.reduceLT, Int.reduceLE, Int.reducePow, Int.reduceToNat, Int.reduceAdd, Int.reduceMul, Int.reduceSub, Nat.reduceLeDiff, fEq_ints, fNe_ints, fEq_lstsI, fNe_lstsI, fEq_tupsI, fNe_tupsI, noLA_ints, fSum_lst, fSum_tup, fSorted_lst, fSorted_tup, ↓reduceIte, Bool.false_eq_true, Bool.true_eq_false, false_implies, true_implies, implies_true, forall_const, Bool.not_true, Bool.not_false]
    refine fEq_ne (by decide +kernel) (by decide +kernel) (by decide +kernel) ?_
    simp only [fLenSet, fMul3, dTr, tru, dAsgT, gS, dMake2, dCBK, fMinD, dCallG, fRepr, fEqS, dSq, dAsg, dNx, dExp, dRet, dRetN, dIfS, dBk, dCt, dAppend, dInsert, dRemove, dPopAt, dSetAt, dRaise, dRaise0, dRaiseL, dVar, dC, dOp, dT, dChain, dNotT, dAndT, dOrT, dAndV, dOrV, dNotV, dIf, dNeg, dNil, dCons, dCB, dTup, dLst, dCall, dCallV, dCallF, dFld, dNoPart, dPart, dSl, dIsSeq, dBM, dTM, dXf, dYes, fSub, fDiv, fMod, fPow, fAdd, fCat, fMul, fRep, fLt, fLe, fGt, fGe, fIs, fIsNot, fIx, fSl, fSlL, fLen, fList, fTuple, fMax2, fMin2, fMax, fMin, fAbs, fInt, fIsi, fIsiN, fIsiC, gN, gT, gT0, gTC, diSeq, diRng1, diRng2, diEnum, dstart, De.off, exD, suiteD, List.map_cons, List.map_nil, List.length_cons, List.length_nil, Nat.reduceAdd, Nat.reduceSub, List.replicate_succ, List.replicate_zero, List.getElem?_cons_zero, List.getElem?_cons_succ, List.set_cons_zero, List.set_cons_succ, Option.some.injEq, exists_eq_left', exists_eq_left, exists_and_left, D.int.injEq, D.bl.injEq, D.lst.injEq, D.tup.injEq, D.str.injEq, D.exc.injEq, List.cons.injEq, and_true, true_and, List.nil_append, List.cons_append, List.append_nil, reduceCtorEq, false_and, exists_false, or_false, false_or, or_true, true_or, and_false, Int.reduceNeg, decide_eq_true_eq, Bool.not_eq_true', decide_eq_false_iff_not, and_assoc, Nat.zero_le, List.length_map, Int.zero_add, Int.reduceLT, Int.reduceLE, Int.reducePow, Int.reduceToNat, Int.reduceAdd, Int.reduceMul, Int.reduceSub, Nat.reduceLeDiff, fEq_ints, fNe_ints, fEq_lstsI, fNe_lstsI, fEq_tupsI, fNe_tupsI, noLA_ints, fSum_lst, fSum_tup, fSorted_lst, fSorted_tup, ↓reduceIte, Bool.false_eq_true, Bool.true_eq_false, false_implies, true_implies, implies_true, forall_const, Bool.not_true, Bool.not_false]
    refine fEq_ne (by decide +kernel) (by decide +kernel) (by decide +kernel) ?_
    simp only [fLenSet, fMul3, dTr, tru, dAsgT, gS, dMake2, dCBK, fMinD, dCallG, fRepr, fEqS, dSq, dAsg, dNx, dExp, dRet, dRetN, dIfS, dBk, dCt, dAppend, dInsert, dRemove, dPopAt, dSetAt, dRaise, dRaise0, dRaiseL, dVar, dC, dOp, dT, dChain, dNotT, dAndT, dOrT, dAndV, dOrV, dNotV, dIf, dNeg, dNil, dCons, dCB, dTup, dLst, dCall, dCallV, dCallF, dFld, dNoPart, dPart, dSl, dIsSeq, dBM, dTM, dXf, dYes, fSub, fDiv, fMod, fPow, fAdd, fCat, fMul, fRep, fLt, fLe, fGt, fGe, fIs, fIsNot, fIx, fSl, fSlL, fLen, fList, fTuple, fMax2, fMin2, fMax, fMin, fAbs, fInt, fIsi, fIsiN, fIsiC, gN, gT, gT0, gTC, diSeq, diRng1, diRng2, diEnum, dstart, De.off, exD, suiteD, List.map_cons, List.map_nil, List.length_cons, List.length_nil, Nat.reduceAdd, Nat.reduceSub, List.replicate_succ, List.replicate_zero, List.getElem?_cons_zero, List.getElem?_cons_succ, List.set_cons_zero, List.set_cons_succ, Option.some.injEq, exists_eq_left', exists_eq_left, exists_and_left, D.int.injEq, D.bl.injEq, D.lst.injEq, D.tup.injEq, D.str.injEq, D.exc.injEq, List.cons.injEq, and_true, true_and, List.nil_append, List.cons_append, List.append_nil, reduceCtorEq, false_and, exists_false, or_false, false_or, or_true, true_or, and_false, Int.reduceNeg, decide_eq_true_eq, Bool.not_eq_true', decide_eq_false_iff_not, and_assoc, Nat.zero_le, List.length_map, Int.zero_add, Int.reduceLT, Int.reduceLE, Int.reducePow, Int.reduceToNat, Int.reduceAdd, Int.reduceMul, Int.reduceSub, Nat.reduceLeDiff, fEq_ints, fNe_ints, fEq_lstsI, fNe_lstsI, fEq_tupsI, fNe_tupsI, noLA_ints, fSum_lst, fSum_tup, fSorted_lst, fSorted_tup, ↓reduceIte, Bool.false_eq_true, Bool.true_eq_false, false_implies, true_implies, implies_true, forall_const, Bool.not_true, Bool.not_false]
    refine ⟨a, atI_nat (j := 0) rfl, b, atI_nat (j := 1) rfl, ha, hb, hy, ?_⟩
    rcases hq with ⟨h1, q⟩ | ⟨h1, h2, q⟩ | ⟨h1, h2, h3, q⟩
    · exact ⟨fun _ => ⟨_, rfl, two, q⟩, fun n e n1 => one_ (n : Int) h1 e (by omega) (by omega)⟩
    · exact ⟨fun h => no h1 h, fun n e n1 => ⟨fun _ => ⟨two, q⟩, fun u e u1 u2 => one_ (u : Int) h2 e (by omega) (by omega)⟩⟩
    · exact ⟨fun h => no h1 h, fun n e n1 => ⟨fun h => no h2 h, fun u e u1 u2 => ⟨fun _ => ⟨two, q⟩, fun p e p0 p1 => one_ p h3 e p0 p1⟩⟩⟩
def s_d_l_refusals_right : SpD := fun ds P _ => ∃ p : Int, ds = [.hand, .int p] ∧ 2 ≤ p ∧ p ≤ 5 ∧ P (.bl true)
theorem len_d_l_refusals_right : ∀ ds P er, s_d_l_refusals_right ds P er → ds.length = 2 := by rintro _ _ _ ⟨_, rfl, _⟩; rfl
theorem n0_l_refusals_right : ∀ ds P er, s_d_l_refusals_right ds P er → s_d_l_refusals_right ds P noX := fun _ _ _ h => h
theorem ok_l_refusals_right {f : Addr} {fd : FuncData} (F : Fun K "_law_refusals_right" "_law_refusals_right" s_l_refusals_right f fd) (T : Txt K mg cBadPeople cBadCount cBadTotal cBadCoin cBadUnlike) : FnOk P w K mg base CX0 6 f fd ps_l_refusals_right (spOf (s_d_l_refusals_right)) := by
  obtain ⟨f_l_odd_people, fd_l_odd_people, F_l_odd_people, m_l_odd_people, b_l_odd_people⟩ := T.d_l_odd_people
  have G_l_odd_people : FnOk P w K mg base CX0 4 f_l_odd_people fd_l_odd_people ps_l_odd_people (spOf (s_d_l_odd_people)) := ok_l_odd_people F_l_odd_people T
  obtain ⟨f_l_pick, fd_l_pick, F_l_pick, m_l_pick, b_l_pick⟩ := T.d_l_pick
  have G_l_pick : FnOk P w K mg base CX0 3 f_l_pick fd_l_pick ps_l_pick (spOf (s_d_l_pick)) := ok_l_pick F_l_pick T
  obtain ⟨f_l_odd_number, fd_l_odd_number, F_l_odd_number, m_l_odd_number, b_l_odd_number⟩ := T.d_l_odd_number
  have G_l_odd_number : FnOk P w K mg base CX0 4 f_l_odd_number fd_l_odd_number ps_l_odd_number (spOf (s_d_l_odd_number)) := ok_l_odd_number F_l_odd_number T
  obtain ⟨f_l_told, fd_l_told, F_l_told, m_l_told, b_l_told⟩ := T.d_l_told
  have G_l_told : FnOk P w K mg base CX0 5 f_l_told fd_l_told ps_l_told (spOf (s_d_l_told)) := ok_l_told F_l_told T
  obtain ⟨f_l_draw, fd_l_draw, F_l_draw, m_l_draw, b_l_draw⟩ := T.d_l_draw
  have G_l_draw : FnOk P w K mg base CX0 2 f_l_draw fd_l_draw ps_l_draw (spOf (s_d_l_draw)) := ok_l_draw F_l_draw T
  refine fn0_d (k := 5) (Oe := []) F sc_l_refusals_right [] _ (len_d_l_refusals_right) (by decide) (fun cdv A outer sh H E hr => (s_cons (s_set (i := 2) (by decide) sc_l_refusals_right.nd rfl (Or.inl rfl) (d_call (by decide) G_l_odd_people (hr.mono (by decide)) (by rfl) m_l_odd_people F_l_odd_people.kp b_l_odd_people .nil (fun _ _ _ => .nil) pass0A (a_cons (d_var (i := 0) (by decide) (pv 0)) a_nil)))
      (s_cons (s_set (i := 3) (by decide) sc_l_refusals_right.nd rfl (Or.inl rfl) (d_call (by decide) G_l_pick (hr.mono (by decide)) (by rfl) m_l_pick F_l_pick.kp b_l_pick .nil (fun _ _ _ => .nil) pass0A (a_cons (d_var (i := 0) (by decide) (pv 0)) (a_cons (ofF (f_lst (a_cons (d_c (y := .int 0) (fun _ _ _ => .int _) pe_int) (a_cons (d_neg (d_c (y := .int 1) (fun _ _ _ => .int _) pe_int)) (a_cons (d_op op_add4 l_add (toV (d_op op_pow l_pow (toV (d_c (y := .int 10) (fun _ _ _ => .int _) pe_int)) (toV (d_c (y := .int 9) (fun _ _ _ => .int _) pe_int)))) (toV (d_c (y := .int 1) (fun _ _ _ => .int _) pe_int))) (a_cons (d_c (y := .non) (fun _ _ _ => .non) pe_non) (a_cons (d_c (y := .bl true) (fun _ _ _ => .bl _) pe_bl) (a_cons (d_c (y := .str "1") (fun _ _ _ => .str _) pe_str) (a_cons (d_op op_pow l_pow (toV (d_c (y := .int 10) (fun _ _ _ => .int _) pe_int)) (toV (d_c (y := .int 20) (fun _ _ _ => .int _) pe_int))) a_nil))))))))) a_nil))))
      (s_cons (s_set (i := 4) (by decide) sc_l_refusals_right.nd rfl (Or.inl rfl) (d_call (by decide) G_l_pick (hr.mono (by decide)) (by rfl) m_l_pick F_l_pick.kp b_l_pick .nil (fun _ _ _ => .nil) pass0A (a_cons (d_var (i := 0) (by decide) (pv 0)) (a_cons (ofF (f_lst (a_cons (d_c (y := .int 0) (fun _ _ _ => .int _) pe_int) (a_cons (d_neg (d_c (y := .int 1) (fun _ _ _ => .int _) pe_int)) (a_cons (d_c (y := .int 13) (fun _ _ _ => .int _) pe_int) (a_cons (d_c (y := .non) (fun _ _ _ => .non) pe_non) (a_cons (d_c (y := .bl true) (fun _ _ _ => .bl _) pe_bl) (a_cons (d_c (y := .str "1") (fun _ _ _ => .str _) pe_str) (a_cons (d_op op_pow l_pow (toV (d_c (y := .int 10) (fun _ _ _ => .int _) pe_int)) (toV (d_c (y := .int 20) (fun _ _ _ => .int _) pe_int))) a_nil))))))))) a_nil))))
      (s_cons (s_set (i := 5) (by decide) sc_l_refusals_right.nd rfl (Or.inl rfl) (d_call (by decide) G_l_odd_number (hr.mono (by decide)) (by rfl) m_l_odd_number F_l_odd_number.kp b_l_odd_number .nil (fun _ _ _ => .nil) pass0A (a_cons (d_var (i := 0) (by decide) (pv 0)) (a_cons (d_op op_pow l_pow (toV (d_c (y := .int 10) (fun _ _ _ => .int _) pe_int)) (toV (d_c (y := .int 9) (fun _ _ _ => .int _) pe_int))) a_nil))))
      (s_cons (s_set (i := 6) (by decide) sc_l_refusals_right.nd rfl (Or.inl rfl) (d_call (by decide) G_l_odd_number (hr.mono (by decide)) (by rfl) m_l_odd_number F_l_odd_number.kp b_l_odd_number .nil (fun _ _ _ => .nil) pass0A (a_cons (d_var (i := 0) (by decide) (pv 0)) (a_cons (d_c (y := .int 12) (fun _ _ _ => .int _) pe_int) a_nil))))
      (s_cons (s_for (vs := [7]) PassesOwn.never rfl (by decide) (pi_seq (d_tup (a_cons (d_c (y := .str "least") (fun _ _ _ => .str _) pe_str) (a_cons (d_c (y := .str "fewest") (fun _ _ _ => .str _) pe_str) a_nil)))) (li_seq (own := false)) (pg_name (i := 7) sc_l_refusals_right.nd rfl (Or.inl rfl)) (lg_name (i := 7) (by decide) (by decide))
      (s_cons (s_if (PW.pt (d_or (d_tcmp (op_neD hr.units) l_ne (toV (d_call (by decide) G_l_told (hr.mono (by decide)) (by rfl) m_l_told F_l_told.kp b_l_told .nil (fun _ _ _ => .nil) pass0A (a_cons (d_var (i := 7) (by decide) (pv 7)) (a_cons (d_var (i := 3) (by decide) (pv 3)) (a_cons (d_var (i := 1) (by decide) (pv 1)) a_nil))))) (toV (d_tup (a_cons (d_c (y := .str "coin") (fun _ _ _ => .str _) pe_str) (a_cons (d_c (y := .int 0) (fun _ _ _ => .int _) pe_int) a_nil)))) (nomark _)) (d_or1 (d_tcmp (op_neD hr.units) l_ne (toV (d_call (by decide) G_l_told (hr.mono (by decide)) (by rfl) m_l_told F_l_told.kp b_l_told .nil (fun _ _ _ => .nil) pass0A (a_cons (d_var (i := 7) (by decide) (pv 7)) (a_cons (d_var (i := 3) (by decide) (pv 3)) (a_cons (d_var (i := 2) (by decide) (pv 2)) a_nil))))) (toV (d_tup (a_cons (d_c (y := .str "coin") (fun _ _ _ => .str _) pe_str) (a_cons (d_c (y := .int 0) (fun _ _ _ => .int _) pe_int) a_nil)))) (nomark _))))) (s_one (s_ret (O2 := []) (fun _ z => nomatch z) (d_c (y := .bl false) (fun _ _ _ => .bl _) pe_bl)) (fun _ z => z)) (s_nil (fun _ z => z)))
      (s_one (s_if (d_tcmp (op_neD hr.units) l_ne (toV (d_call (by decide) G_l_told (hr.mono (by decide)) (by rfl) m_l_told F_l_told.kp b_l_told .nil (fun _ _ _ => .nil) pass0A (a_cons (d_var (i := 7) (by decide) (pv 7)) (a_cons (d_op op_add4 l_add (toV (d_c (y := .int 1) (fun _ _ _ => .int _) pe_int)) (toV (d_call (by decide) G_l_draw (hr.mono (by decide)) (by rfl) m_l_draw F_l_draw.kp b_l_draw .nil (fun _ _ _ => .nil) pass0A (a_cons (d_var (i := 0) (by decide) (pv 0)) (a_cons (d_c (y := .int 9) (fun _ _ _ => .int _) pe_int) a_nil))))) (a_cons (d_var (i := 2) (by decide) (pv 2)) a_nil))))) (toV (d_tup (a_cons (d_c (y := .str "people") (fun _ _ _ => .str _) pe_str) (a_cons (d_c (y := .int 0) (fun _ _ _ => .int _) pe_int) a_nil)))) (nomark _)) (s_one (s_ret (O2 := []) (fun _ z => nomatch z) (d_c (y := .bl false) (fun _ _ _ => .bl _) pe_bl)) (fun _ z => z)) (s_nil (fun _ z => z))) (fun _ z => z))))
      (s_cons (s_if (PW.pt (d_or (d_tcmp (op_neD hr.units) l_ne (toV (d_call (by decide) G_l_told (hr.mono (by decide)) (by rfl) m_l_told F_l_told.kp b_l_told .nil (fun _ _ _ => .nil) pass0A (a_cons (d_c (y := .str "coin") (fun _ _ _ => .str _) pe_str) (a_cons (d_var (i := 5) (by decide) (pv 5)) (a_cons (d_var (i := 1) (by decide) (pv 1)) a_nil))))) (toV (d_tup (a_cons (d_c (y := .str "total") (fun _ _ _ => .str _) pe_str) (a_cons (d_op op_pow l_pow (toV (d_c (y := .int 10) (fun _ _ _ => .int _) pe_int)) (toV (d_c (y := .int 9) (fun _ _ _ => .int _) pe_int))) a_nil)))) (nomark _)) (d_or1 (d_tcmp (op_neD hr.units) l_ne (toV (d_call (by decide) G_l_told (hr.mono (by decide)) (by rfl) m_l_told F_l_told.kp b_l_told .nil (fun _ _ _ => .nil) pass0A (a_cons (d_c (y := .str "coin") (fun _ _ _ => .str _) pe_str) (a_cons (d_var (i := 5) (by decide) (pv 5)) (a_cons (d_var (i := 2) (by decide) (pv 2)) a_nil))))) (toV (d_tup (a_cons (d_c (y := .str "total") (fun _ _ _ => .str _) pe_str) (a_cons (d_op op_pow l_pow (toV (d_c (y := .int 10) (fun _ _ _ => .int _) pe_int)) (toV (d_c (y := .int 9) (fun _ _ _ => .int _) pe_int))) a_nil)))) (nomark _))))) (s_one (s_ret (O2 := []) (fun _ z => nomatch z) (d_c (y := .bl false) (fun _ _ _ => .bl _) pe_bl)) (fun _ z => z)) (s_nil (fun _ z => z)))
      (s_cons (s_if (d_tcmp (op_neD hr.units) l_ne (toV (d_call (by decide) G_l_told (hr.mono (by decide)) (by rfl) m_l_told F_l_told.kp b_l_told .nil (fun _ _ _ => .nil) pass0A (a_cons (d_c (y := .str "coin") (fun _ _ _ => .str _) pe_str) (a_cons (d_call (by decide) G_l_draw (hr.mono (by decide)) (by rfl) m_l_draw F_l_draw.kp b_l_draw .nil (fun _ _ _ => .nil) pass0A (a_cons (d_var (i := 0) (by decide) (pv 0)) (a_cons (d_c (y := .int 60) (fun _ _ _ => .int _) pe_int) a_nil))) (a_cons (d_var (i := 2) (by decide) (pv 2)) a_nil))))) (toV (d_tup (a_cons (d_c (y := .str "people") (fun _ _ _ => .str _) pe_str) (a_cons (d_c (y := .int 0) (fun _ _ _ => .int _) pe_int) a_nil)))) (nomark _)) (s_one (s_ret (O2 := []) (fun _ z => nomatch z) (d_c (y := .bl false) (fun _ _ _ => .bl _) pe_bl)) (fun _ z => z)) (s_nil (fun _ z => z)))
      (s_cons (s_if (d_tcmp (op_neD hr.units) l_ne (toV (d_call (by decide) G_l_told (hr.mono (by decide)) (by rfl) m_l_told F_l_told.kp b_l_told .nil (fun _ _ _ => .nil) pass0A (a_cons (d_c (y := .str "unlike") (fun _ _ _ => .str _) pe_str) (a_cons (d_tup (a_cons (d_var (i := 6) (by decide) (pv 6)) (a_cons (d_var (i := 4) (by decide) (pv 4)) a_nil))) (a_cons (d_var (i := 2) (by decide) (pv 2)) a_nil))))) (toV (d_tup (a_cons (d_c (y := .str "count") (fun _ _ _ => .str _) pe_str) (a_cons (d_c (y := .int 12) (fun _ _ _ => .int _) pe_int) a_nil)))) (nomark _)) (s_one (s_ret (O2 := []) (fun _ z => nomatch z) (d_c (y := .bl false) (fun _ _ _ => .bl _) pe_bl)) (fun _ z => z)) (s_nil (fun _ z => z)))
      (s_cons (s_if (d_tcmp (op_neD hr.units) l_ne (toV (d_call (by decide) G_l_told (hr.mono (by decide)) (by rfl) m_l_told F_l_told.kp b_l_told .nil (fun _ _ _ => .nil) pass0A (a_cons (d_c (y := .str "unlike") (fun _ _ _ => .str _) pe_str) (a_cons (d_tup (a_cons (d_call (by decide) G_l_draw (hr.mono (by decide)) (by rfl) m_l_draw F_l_draw.kp b_l_draw .nil (fun _ _ _ => .nil) pass0A (a_cons (d_var (i := 0) (by decide) (pv 0)) (a_cons (d_c (y := .int 13) (fun _ _ _ => .int _) pe_int) a_nil))) (a_cons (d_var (i := 4) (by decide) (pv 4)) a_nil))) (a_cons (d_var (i := 2) (by decide) (pv 2)) a_nil))))) (toV (d_tup (a_cons (d_c (y := .str "unlike") (fun _ _ _ => .str _) pe_str) (a_cons (d_c (y := .int 0) (fun _ _ _ => .int _) pe_int) a_nil)))) (nomark _)) (s_one (s_ret (O2 := []) (fun _ z => nomatch z) (d_c (y := .bl false) (fun _ _ _ => .bl _) pe_bl)) (fun _ z => z)) (s_nil (fun _ z => z)))
      (s_cons (s_if (PW.pt (d_or (d_tcmp (op_neD hr.units) l_ne (toV (d_call (by decide) G_l_told (hr.mono (by decide)) (by rfl) m_l_told F_l_told.kp b_l_told .nil (fun _ _ _ => .nil) pass0A (a_cons (d_c (y := .str "unlike") (fun _ _ _ => .str _) pe_str) (a_cons (d_tup (a_cons (d_var (i := 6) (by decide) (pv 6)) (a_cons (d_c (y := .int 3) (fun _ _ _ => .int _) pe_int) a_nil))) (a_cons (d_var (i := 1) (by decide) (pv 1)) a_nil))))) (toV (d_tup (a_cons (d_c (y := .str "count") (fun _ _ _ => .str _) pe_str) (a_cons (d_c (y := .int 12) (fun _ _ _ => .int _) pe_int) a_nil)))) (nomark _)) (d_or1 (d_tcmp (op_neD hr.units) l_ne (toV (d_call (by decide) G_l_told (hr.mono (by decide)) (by rfl) m_l_told F_l_told.kp b_l_told .nil (fun _ _ _ => .nil) pass0A (a_cons (d_c (y := .str "unlike") (fun _ _ _ => .str _) pe_str) (a_cons (d_tup (a_cons (d_c (y := .int 5) (fun _ _ _ => .int _) pe_int) (a_cons (d_var (i := 4) (by decide) (pv 4)) a_nil))) (a_cons (d_var (i := 1) (by decide) (pv 1)) a_nil))))) (toV (d_tup (a_cons (d_c (y := .str "unlike") (fun _ _ _ => .str _) pe_str) (a_cons (d_c (y := .int 0) (fun _ _ _ => .int _) pe_int) a_nil)))) (nomark _))))) (s_one (s_ret (O2 := []) (fun _ z => nomatch z) (d_c (y := .bl false) (fun _ _ _ => .bl _) pe_bl)) (fun _ z => z)) (s_nil (fun _ z => z)))
      (s_one (s_ret (O2 := []) (fun _ z => nomatch z) (d_cmp (op_eqD hr.units) l_eq (toV (d_call (by decide) G_l_told (hr.mono (by decide)) (by rfl) m_l_told F_l_told.kp b_l_told .nil (fun _ _ _ => .nil) pass0A (a_cons (d_c (y := .str "unlike") (fun _ _ _ => .str _) pe_str) (a_cons (d_tup (a_cons (d_call (by decide) G_l_draw (hr.mono (by decide)) (by rfl) m_l_draw F_l_draw.kp b_l_draw .nil (fun _ _ _ => .nil) pass0A (a_cons (d_var (i := 0) (by decide) (pv 0)) (a_cons (d_c (y := .int 13) (fun _ _ _ => .int _) pe_int) a_nil))) (a_cons (d_op op_add4 l_add (toV (d_c (y := .int 1) (fun _ _ _ => .int _) pe_int)) (toV (d_call (by decide) G_l_draw (hr.mono (by decide)) (by rfl) m_l_draw F_l_draw.kp b_l_draw .nil (fun _ _ _ => .nil) pass0A (a_cons (d_var (i := 0) (by decide) (pv 0)) (a_cons (d_c (y := .int 12) (fun _ _ _ => .int _) pe_int) a_nil))))) a_nil))) (a_cons (d_var (i := 2) (by decide) (pv 2)) a_nil))))) (toV (d_tup (a_cons (d_c (y := .str "people") (fun _ _ _ => .str _) pe_str) (a_cons (d_c (y := .int 0) (fun _ _ _ => .int _) pe_int) a_nil)))) (nomark _))) (by decide)))))))))))))) ?_ n0_l_refusals_right
  rintro ds P ⟨p, rfl, p0, p1, q⟩
  have small : (1000 : Nat) < sizeLine := by decide
  have sh : ∀ (w : Str) (i : Int), PyData.strOk w = true → D.shp 60 (.tup [.str w, .int i]) = true := fun w i h => by
    show D.shpA 59 [.str w, .int i] = true
    simp only [shp_cons, shp_int, shp_str, h, shp_nil, Bool.and_self]
  refine sq_cut fun R eR => ?_
  simp only [fLenSet, fMul3, dTr, tru, dAsgT, gS, dMake2, dCBK, fMinD, dCallG, fRepr, fEqS, dSq, dAsg, dNx, dExp, dRet, dRetN, dIfS, dBk, dCt, dAppend, dInsert, dRemove, dPopAt, dSetAt, dRaise, dRaise0, dRaiseL, dVar, dC, dOp, dT, dChain, dNotT, dAndT, dOrT, dAndV, dOrV, dNotV, dIf, dNeg, dNil, dCons, dCB, dTup, dLst, dCall, dCallV, dCallF, dFld, dNoPart, dPart, dSl, dIsSeq, dBM, dTM, dXf, dYes, fSub, fDiv, fMod, fPow, fAdd, fCat, fMul, fRep, fLt, fLe, fGt, fGe, fIs, fIsNot, fIx, fSl, fSlL, fLen, fList, fTuple, fMax2, fMin2, fMax, fMin, fAbs, fInt, fIsi, fIsiN, fIsiC, gN, gT, gT0, gTC, diSeq, diRng1, diRng2, diEnum, dstart, De.off, exD, suiteD, List.map_cons, List.map_nil, List.length_cons, List.length_nil, Nat.reduceAdd, Nat.reduceSub, List.replicate_succ, List.replicate_zero, List.getElem?_cons_zero, List.getElem?_cons_succ, List.set_cons_zero, List.set_cons_succ, Option.some.injEq, exists_eq_left', exists_eq_left, exists_and_left, D.int.injEq, D.bl.injEq, D.lst.injEq, D.tup.injEq, D.str.injEq, D.exc.injEq, List.cons.injEq, and_true, true_and, List.nil_append, List.cons_append, List.append_nil, reduceCtorEq, false_and, exists_false, or_false, false_or, or_true, true_or, and_false, Int.reduceNeg, decide_eq_true_eq, Bool.not_eq_true', decide_eq_false_iff_not, and_assoc, Nat.zero_le, List.length_map, Int.zero_add, Int.reduceLT, Int.reduceLE, Int.reducePow, Int.reduceToNat, Int.reduceAdd, Int.reduceMul, Int.reduceSub, Nat.reduceLeDiff, fEq_ints, fNe_ints, fEq_lstsI, fNe_lstsI, fEq_tupsI, fNe_tupsI, noLA_ints, fSum_lst, fSum_tup, fSorted_lst, fSorted_tup, ↓reduceIte, Bool.false_eq_true, Bool.true_eq_false, false_implies, true_implies, implies_true, forall_const, Bool.not_true, Bool.not_false, s_d_l_odd_people]
  intro op opk opw
  subst eR
  refine sq_cut fun R eR => ?_
  simp only [fLenSet, fMul3, dTr, tru, dAsgT, gS, dMake2, dCBK, fMinD, dCallG, fRepr, fEqS, dSq, dAsg, dNx, dExp, dRet, dRetN, dIfS, dBk, dCt, dAppend, dInsert, dRemove, dPopAt, dSetAt, dRaise, dRaise0, dRaiseL, dVar, dC, dOp, dT, dChain, dNotT, dAndT, dOrT, dAndV, dOrV, dNotV, dIf, dNeg, dNil, dCons, dCB, dTup, dLst, dCall, dCallV, dCallF, dFld, dNoPart, dPart, dSl, dIsSeq, dBM, dTM, dXf, dYes, fSub, fDiv, fMod, fPow, fAdd, fCat, fMul, fRep, fLt, fLe, fGt, fGe, fIs, fIsNot, fIx, fSl, fSlL, fLen, fList, fTuple, fMax2, fMin2, fMax, fMin, fAbs, fInt, fIsi, fIsiN, fIsiC, gN, gT, gT0, gTC, diSeq, diRng1, diRng2, diEnum, dstart, De.off, exD, suiteD, List.map_cons, List.map_nil, List.length_cons, List.length_nil, Nat.reduceAdd, Nat.reduceSub, List.replicate_succ, List.replicate_zero, List.getElem?_cons_zero, List.getElem?_cons_succ, List.set_cons_zero, List.set_cons_succ, Option.some.injEq, exists_eq_left', exists_eq_left, exists_and_left, D.int.injEq, D.bl.injEq, D.lst.injEq, D.tup.injEq, D.str.injEq, D.exc.injEq, List.cons.injEq, and_true, true_and, List.nil_append, List.cons_append, List.append_nil, reduceCtorEq, false_and, exists_false, or_false, false_or, or_true, true_or, and_false, Int.reduceNeg, decide_eq_true_eq, Bool.not_eq_true', decide_eq_false_iff_not, and_assoc, Nat.zero_le, List.length_map, Int.zero_add, Int.reduceLT, Int.reduceLE, Int.reducePow, Int.reduceToNat, Int.reduceAdd, Int.reduceMul, Int.reduceSub, Nat.reduceLeDiff, fEq_ints, fNe_ints, fEq_lstsI, fNe_lstsI, fEq_tupsI, fNe_tupsI, noLA_ints, fSum_lst, fSum_tup, fSorted_lst, fSorted_tup, ↓reduceIte, Bool.false_eq_true, Bool.true_eq_false, false_implies, true_implies, implies_true, forall_const, Bool.not_true, Bool.not_false, s_d_l_pick]
  refine ⟨by decide, by decide, fun oc hoc => ?_⟩
  obtain ⟨ock, ocw⟩ : kn oc = true ∧ whole oc 1 1000000000 = false := by
    simp only [List.mem_cons, List.not_mem_nil, or_false] at hoc
    rcases hoc with rfl | rfl | rfl | rfl | rfl | rfl | rfl <;> exact ⟨rfl, rfl⟩
  clear hoc
  subst eR
  refine sq_cut fun R eR => ?_
  simp only [fLenSet, fMul3, dTr, tru, dAsgT, gS, dMake2, dCBK, fMinD, dCallG, fRepr, fEqS, dSq, dAsg, dNx, dExp, dRet, dRetN, dIfS, dBk, dCt, dAppend, dInsert, dRemove, dPopAt, dSetAt, dRaise, dRaise0, dRaiseL, dVar, dC, dOp, dT, dChain, dNotT, dAndT, dOrT, dAndV, dOrV, dNotV, dIf, dNeg, dNil, dCons, dCB, dTup, dLst, dCall, dCallV, dCallF, dFld, dNoPart, dPart, dSl, dIsSeq, dBM, dTM, dXf, dYes, fSub, fDiv, fMod, fPow, fAdd, fCat, fMul, fRep, fLt, fLe, fGt, fGe, fIs, fIsNot, fIx, fSl, fSlL, fLen, fList, fTuple, fMax2, fMin2, fMax, fMin, fAbs, fInt, fIsi, fIsiN, fIsiC, gN, gT, gT0, gTC, diSeq, diRng1, diRng2, diEnum, dstart, De.off, exD, suiteD, List.map_cons, List.map_nil, List.length_cons, List.length_nil, Nat.reduceAdd, Nat.reduceSub, List.replicate_succ, List.replicate_zero, List.getElem?_cons_zero, List.getElem?_cons_succ, List.set_cons_zero, List.set_cons_succ, Option.some.injEq, exists_eq_left', exists_eq_left, exists_and_left, D.int.injEq, D.bl.injEq, D.lst.injEq, D.tup.injEq, D.str.injEq, D.exc.injEq, List.cons.injEq, and_true, true_and, List.nil_append, List.cons_append, List.append_nil, reduceCtorEq, false_and, exists_false, or_false, false_or, or_true, true_or, and_false, Int.reduceNeg, decide_eq_true_eq, Bool.not_eq_true', decide_eq_false_iff_not, and_assoc, Nat.zero_le, List.length_map, Int.zero_add, Int.reduceLT, Int.reduceLE, Int.reducePow, Int.reduceToNat, Int.reduceAdd, Int.reduceMul, Int.reduceSub, Nat.reduceLeDiff, fEq_ints, fNe_ints, fEq_lstsI, fNe_lstsI, fEq_tupsI, fNe_tupsI, noLA_ints, fSum_lst, fSum_tup, fSorted_lst, fSorted_tup, ↓reduceIte, Bool.false_eq_true, Bool.true_eq_false, false_implies, true_implies, implies_true, forall_const, Bool.not_true, Bool.not_false, s_d_l_pick]
  refine ⟨by decide, by decide, fun ou hou => ?_⟩
  obtain ⟨ouk, ouw⟩ : kn ou = true ∧ whole ou 1 12 = false := by
    simp only [List.mem_cons, List.not_mem_nil, or_false] at hou
    rcases hou with rfl | rfl | rfl | rfl | rfl | rfl | rfl <;> exact ⟨rfl, rfl⟩
  clear hou
  subst eR
  refine sq_cut fun R eR => ?_
  simp only [fLenSet, fMul3, dTr, tru, dAsgT, gS, dMake2, dCBK, fMinD, dCallG, fRepr, fEqS, dSq, dAsg, dNx, dExp, dRet, dRetN, dIfS, dBk, dCt, dAppend, dInsert, dRemove, dPopAt, dSetAt, dRaise, dRaise0, dRaiseL, dVar, dC, dOp, dT, dChain, dNotT, dAndT, dOrT, dAndV, dOrV, dNotV, dIf, dNeg, dNil, dCons, dCB, dTup, dLst, dCall, dCallV, dCallF, dFld, dNoPart, dPart, dSl, dIsSeq, dBM, dTM, dXf, dYes, fSub, fDiv, fMod, fPow, fAdd, fCat, fMul, fRep, fLt, fLe, fGt, fGe, fIs, fIsNot, fIx, fSl, fSlL, fLen, fList, fTuple, fMax2, fMin2, fMax, fMin, fAbs, fInt, fIsi, fIsiN, fIsiC, gN, gT, gT0, gTC, diSeq, diRng1, diRng2, diEnum, dstart, De.off, exD, suiteD, List.map_cons, List.map_nil, List.length_cons, List.length_nil, Nat.reduceAdd, Nat.reduceSub, List.replicate_succ, List.replicate_zero, List.getElem?_cons_zero, List.getElem?_cons_succ, List.set_cons_zero, List.set_cons_succ, Option.some.injEq, exists_eq_left', exists_eq_left, exists_and_left, D.int.injEq, D.bl.injEq, D.lst.injEq, D.tup.injEq, D.str.injEq, D.exc.injEq, List.cons.injEq, and_true, true_and, List.nil_append, List.cons_append, List.append_nil, reduceCtorEq, false_and, exists_false, or_false, false_or, or_true, true_or, and_false, Int.reduceNeg, decide_eq_true_eq, Bool.not_eq_true', decide_eq_false_iff_not, and_assoc, Nat.zero_le, List.length_map, Int.zero_add, Int.reduceLT, Int.reduceLE, Int.reducePow, Int.reduceToNat, Int.reduceAdd, Int.reduceMul, Int.reduceSub, Nat.reduceLeDiff, fEq_ints, fNe_ints, fEq_lstsI, fNe_lstsI, fEq_tupsI, fNe_tupsI, noLA_ints, fSum_lst, fSum_tup, fSorted_lst, fSorted_tup, ↓reduceIte, Bool.false_eq_true, Bool.true_eq_false, false_implies, true_implies, implies_true, forall_const, Bool.not_true, Bool.not_false, s_d_l_odd_number]
  intro ot otk otw
  subst eR
  refine sq_cut fun R eR => ?_
  simp only [fLenSet, fMul3, dTr, tru, dAsgT, gS, dMake2, dCBK, fMinD, dCallG, fRepr, fEqS, dSq, dAsg, dNx, dExp, dRet, dRetN, dIfS, dBk, dCt, dAppend, dInsert, dRemove, dPopAt, dSetAt, dRaise, dRaise0, dRaiseL, dVar, dC, dOp, dT, dChain, dNotT, dAndT, dOrT, dAndV, dOrV, dNotV, dIf, dNeg, dNil, dCons, dCB, dTup, dLst, dCall, dCallV, dCallF, dFld, dNoPart, dPart, dSl, dIsSeq, dBM, dTM, dXf, dYes, fSub, fDiv, fMod, fPow, fAdd, fCat, fMul, fRep, fLt, fLe, fGt, fGe, fIs, fIsNot, fIx, fSl, fSlL, fLen, fList, fTuple, fMax2, fMin2, fMax, fMin, fAbs, fInt, fIsi, fIsiN, fIsiC, gN, gT, gT0, gTC, diSeq, diRng1, diRng2, diEnum, dstart, De.off, exD, suiteD, List.map_cons, List.map_nil, List.length_cons, List.length_nil, Nat.reduceAdd, Nat.reduceSub, List.replicate_succ, List.replicate_zero, List.getElem?_cons_zero, List.getElem?_cons_succ, List.set_cons_zero, List.set_cons_succ, Option.some.injEq, exists_eq_left', exists_eq_left, exists_and_left, D.int.injEq, D.bl.injEq, D.lst.injEq, D.tup.injEq, D.str.injEq, D.exc.injEq, List.cons.injEq, and_true, true_and, List.nil_append, List.cons_append, List.append_nil, reduceCtorEq, false_and, exists_false, or_false, false_or, or_true, true_or, and_false, Int.reduceNeg, decide_eq_true_eq, Bool.not_eq_true', decide_eq_false_iff_not, and_assoc, Nat.zero_le, List.length_map, Int.zero_add, Int.reduceLT, Int.reduceLE, Int.reducePow, Int.reduceToNat, Int.reduceAdd, Int.reduceMul, Int.reduceSub, Nat.reduceLeDiff, fEq_ints, fNe_ints, fEq_lstsI, fNe_lstsI, fEq_tupsI, fNe_tupsI, noLA_ints, fSum_lst, fSum_tup, fSorted_lst, fSorted_tup, ↓reduceIte, Bool.false_eq_true, Bool.true_eq_false, false_implies, true_implies, implies_true, forall_const, Bool.not_true, Bool.not_false, s_d_l_odd_number]
  intro on onk onw
  subst eR
  refine sq_cut fun R eR => ?_
  have wc : ∀ {i lo hi : Int}, lo ≤ i → i ≤ hi → whole (.int i) lo hi = true := fun h1 h2 => by simp [whole]; omega
  have shC : D.shp 60 (.tup [.str "coin", .int 0]) = true := sh _ _ (by decide +kernel)
  have shP : D.shp 60 (.tup [.str "people", .int 0]) = true := sh _ _ (by decide +kernel)
  have shT : D.shp 60 (.tup [.str "total", .int 1000000000]) = true := sh _ _ (by decide +kernel)
  have shN : D.shp 60 (.tup [.str "count", .int 12]) = true := sh _ _ (by decide +kernel)
  have shU : D.shp 60 (.tup [.str "unlike", .int 0]) = true := sh _ _ (by decide +kernel)
  have two : 2 ≤ sizeLine := by decide
  have pk : kn (.int p) = true := rfl
  refine for_i [.str "least", .str "fewest"] (fun k δ => ∃ v : Option D, δ = [some .hand, some (.int p), some op, some oc, some ou, some ot, some on, v]) (fun Q q => by simp only [fLenSet, fMul3, dTr, tru, dAsgT, gS, dMake2, dCBK, fMinD, dCallG, fRepr, fEqS, dSq, dAsg, dNx, dExp, dRet, dRetN, dIfS, dBk, dCt, dAppend, dInsert, dRemove, dPopAt, dSetAt, dRaise, dRaise0, dRaiseL, dVar, dC, dOp, dT, dChain, dNotT, dAndT, dOrT, dAndV, dOrV, dNotV, dIf, dNeg, dNil, dCons, dCB, dTup, dLst, dCall, dCallV, dCallF, dFld, dNoPart, dPart, dSl, dIsSeq, dBM, dTM, dXf, dYes, fSub, fDiv, fMod, fPow, fAdd, fCat, fMul, fRep, fLt, fLe, fGt, fGe, fIs, fIsNot, fIx, fSl, fSlL, fLen, fList, fTuple, fMax2, fMin2, fMax, fMin, fAbs, fInt, fIsi, fIsiN, fIsiC, gN, gT, gT0, gTC, diSeq, diRng1, diRng2, diEnum, dstart, De.off, exD, suiteD, List.map_cons, List.map_nil, List.length_cons, List.length_nil, Nat.reduceAdd, Nat.reduceSub, List.replicate_succ, List.replicate_zero, List.getElem?_cons_zero, List.getElem?_cons_succ, List.set_cons_zero, List.set_cons_succ, Option.some.injEq, exists_eq_left', exists_eq_left, exists_and_left, D.int.injEq, D.bl.injEq, D.lst.injEq, D.tup.injEq, D.str.injEq, D.exc.injEq, List.cons.injEq, and_true, true_and, List.nil_append, List.cons_append, List.append_nil, reduceCtorEq, false_and, exists_false, or_false, false_or, or_true, true_or, and_false, Int.reduceNeg, decide_eq_true_eq, Bool.not_eq_true', decide_eq_false_iff_not, and_assoc, Nat.zero_le, List.length_map, Int.zero_add, Int.reduceLT, Int.reduceLE, Int.reducePow, Int.reduceToNat, Int.reduceAdd, Int.reduceMul, Int.reduceSub, Nat.reduceLeDiff, fEq_ints, fNe_ints, fEq_lstsI, fNe_lstsI, fEq_tupsI, fNe_tupsI, noLA_ints, fSum_lst, fSum_tup, fSorted_lst, fSorted_tup, ↓reduceIte, Bool.false_eq_true, Bool.true_eq_false, false_implies, true_implies, implies_true, forall_const, Bool.not_true, Bool.not_false]; exact ⟨by decide, _, rfl, q⟩) ⟨_, rfl⟩ ?_ ?_
  · rintro k δ' y N hN ⟨v, rfl⟩ hy
    obtain ⟨nm, rfl, hnm⟩ : ∃ nm : Str, y = .str nm ∧ (nm = "least" ∨ nm = "fewest") := by
      rcases List.mem_cons.mp (List.mem_of_getElem? hy) with rfl | hy
      · exact ⟨_, rfl, .inl rfl⟩
      · cases List.mem_singleton.mp hy
        exact ⟨_, rfl, .inr rfl⟩
    simp only [gN, gT, gT0, gTC, wipeD, D.tup.injEq, D.lst.injEq, List.length_cons, List.length_nil, Nat.reduceAdd, List.cons.injEq, exists_eq_left', exists_eq_left, exists_and_left, and_true, true_and, and_assoc, List.set_cons_zero, List.set_cons_succ, reduceCtorEq, Int.zero_add]
    refine sq_cut fun R2 eR2 => ?_
    simp only [fLenSet, fMul3, dTr, tru, dAsgT, gS, dMake2, dCBK, fMinD, dCallG, fRepr, fEqS, dSq, dAsg, dNx, dExp, dRet, dRetN, dIfS, dBk, dCt, dAppend, dInsert, dRemove, dPopAt, dSetAt, dRaise, dRaise0, dRaiseL, dVar, dC, dOp, dT, dChain, dNotT, dAndT, dOrT, dAndV, dOrV, dNotV, dIf, dNeg, dNil, dCons, dCB, dTup, dLst, dCall, dCallV, dCallF, dFld, dNoPart, dPart, dSl, dIsSeq, dBM, dTM, dXf, dYes, fSub, fDiv, fMod, fPow, fAdd, fCat, fMul, fRep, fLt, fLe, fGt, fGe, fIs, fIsNot, fIx, fSl, fSlL, fLen, fList, fTuple, fMax2, fMin2, fMax, fMin, fAbs, fInt, fIsi, fIsiN, fIsiC, gN, gT, gT0, gTC, diSeq, diRng1, diRng2, diEnum, dstart, De.off, exD, suiteD, List.map_cons, List.map_nil, List.length_cons, List.length_nil, Nat.reduceAdd, Nat.reduceSub, List.replicate_succ, List.replicate_zero, List.getElem?_cons_zero, List.getElem?_cons_succ, List.set_cons_zero, List.set_cons_succ, Option.some.injEq, exists_eq_left', exists_eq_left, exists_and_left, D.int.injEq, D.bl.injEq, D.lst.injEq, D.tup.injEq, D.str.injEq, D.exc.injEq, List.cons.injEq, and_true, true_and, List.nil_append, List.cons_append, List.append_nil, reduceCtorEq, false_and, exists_false, or_false, false_or, or_true, true_or, and_false, Int.reduceNeg, decide_eq_true_eq, Bool.not_eq_true', decide_eq_false_iff_not, and_assoc, Nat.zero_le, List.length_map, Int.zero_add, Int.reduceLT, Int.reduceLE, Int.reducePow, Int.reduceToNat, Int.reduceAdd, Int.reduceMul, Int.reduceSub, Nat.reduceLeDiff, fEq_ints, fNe_ints, fEq_lstsI, fNe_lstsI, fEq_tupsI, fNe_tupsI, noLA_ints, fSum_lst, fSum_tup, fSorted_lst, fSorted_tup, ↓reduceIte, Bool.false_eq_true, Bool.true_eq_false, false_implies, true_implies, implies_true, forall_const, Bool.not_true, Bool.not_false]
    refine ⟨nm, oc, .int p, rfl, pk, .inr (.inl ⟨hnm, ock, .inl ⟨ocw, two, fNe_self shC ?_⟩⟩)⟩
    simp only [fLenSet, fMul3, dTr, tru, dAsgT, gS, dMake2, dCBK, fMinD, dCallG, fRepr, fEqS, dSq, dAsg, dNx, dExp, dRet, dRetN, dIfS, dBk, dCt, dAppend, dInsert, dRemove, dPopAt, dSetAt, dRaise, dRaise0, dRaiseL, dVar, dC, dOp, dT, dChain, dNotT, dAndT, dOrT, dAndV, dOrV, dNotV, dIf, dNeg, dNil, dCons, dCB, dTup, dLst, dCall, dCallV, dCallF, dFld, dNoPart, dPart, dSl, dIsSeq, dBM, dTM, dXf, dYes, fSub, fDiv, fMod, fPow, fAdd, fCat, fMul, fRep, fLt, fLe, fGt, fGe, fIs, fIsNot, fIx, fSl, fSlL, fLen, fList, fTuple, fMax2, fMin2, fMax, fMin, fAbs, fInt, fIsi, fIsiN, fIsiC, gN, gT, gT0, gTC, diSeq, diRng1, diRng2, diEnum, dstart, De.off, exD, suiteD, List.map_cons, List.map_nil, List.length_cons, List.length_nil, Nat.reduceAdd, Nat.reduceSub, List.replicate_succ, List.replicate_zero, List.getElem?_cons_zero, List.getElem?_cons_succ, List.set_cons_zero, List.set_cons_succ, Option.some.injEq, exists_eq_left', exists_eq_left, exists_and_left, D.int.injEq, D.bl.injEq, D.lst.injEq, D.tup.injEq, D.str.injEq, D.exc.injEq, List.cons.injEq, and_true, true_and, List.nil_append, List.cons_append, List.append_nil, reduceCtorEq, false_and, exists_false, or_false, false_or, or_true, true_or, and_false, Int.reduceNeg, decide_eq_true_eq, Bool.not_eq_true', decide_eq_false_iff_not, and_assoc, Nat.zero_le, List.length_map, Int.zero_add, Int.reduceLT, Int.reduceLE, Int.reducePow, Int.reduceToNat, Int.reduceAdd, Int.reduceMul, Int.reduceSub, Nat.reduceLeDiff, fEq_ints, fNe_ints, fEq_lstsI, fNe_lstsI, fEq_tupsI, fNe_tupsI, noLA_ints, fSum_lst, fSum_tup, fSorted_lst, fSorted_tup, ↓reduceIte, Bool.false_eq_true, Bool.true_eq_false, false_implies, true_implies, implies_true, forall_const, Bool.not_true, Bool.not_false]
    refine ⟨nm, oc, op, rfl, opk, .inr (.inl ⟨hnm, ock, .inl ⟨ocw, two, fNe_self shC ?_⟩⟩)⟩
    simp only [fLenSet, fMul3, dTr, tru, dAsgT, gS, dMake2, dCBK, fMinD, dCallG, fRepr, fEqS, dSq, dAsg, dNx, dExp, dRet, dRetN, dIfS, dBk, dCt, dAppend, dInsert, dRemove, dPopAt, dSetAt, dRaise, dRaise0, dRaiseL, dVar, dC, dOp, dT, dChain, dNotT, dAndT, dOrT, dAndV, dOrV, dNotV, dIf, dNeg, dNil, dCons, dCB, dTup, dLst, dCall, dCallV, dCallF, dFld, dNoPart, dPart, dSl, dIsSeq, dBM, dTM, dXf, dYes, fSub, fDiv, fMod, fPow, fAdd, fCat, fMul, fRep, fLt, fLe, fGt, fGe, fIs, fIsNot, fIx, fSl, fSlL, fLen, fList, fTuple, fMax2, fMin2, fMax, fMin, fAbs, fInt, fIsi, fIsiN, fIsiC, gN, gT, gT0, gTC, diSeq, diRng1, diRng2, diEnum, dstart, De.off, exD, suiteD, List.map_cons, List.map_nil, List.length_cons, List.length_nil, Nat.reduceAdd, Nat.reduceSub, List.replicate_succ, List.replicate_zero, List.getElem?_cons_zero, List.getElem?_cons_succ, List.set_cons_zero, List.set_cons_succ, Option.some.injEq, exists_eq_left', exists_eq_left, exists_and_left, D.int.injEq, D.bl.injEq, D.lst.injEq, D.tup.injEq, D.str.injEq, D.exc.injEq, List.cons.injEq, and_true, true_and, List.nil_append, List.cons_append, List.append_nil, reduceCtorEq, false_and, exists_false, or_false, false_or, or_true, true_or, and_false, Int.reduceNeg, decide_eq_true_eq, Bool.not_eq_true', decide_eq_false_iff_not, and_assoc, Nat.zero_le, List.length_map, Int.zero_add, Int.reduceLT, Int.reduceLE, Int.reducePow, Int.reduceToNat, Int.reduceAdd, Int.reduceMul, Int.reduceSub, Nat.reduceLeDiff, fEq_ints, fNe_ints, fEq_lstsI, fNe_lstsI, fEq_tupsI, fNe_tupsI, noLA_ints, fSum_lst, fSum_tup, fSorted_lst, fSorted_tup, ↓reduceIte, Bool.false_eq_true, Bool.true_eq_false, false_implies, true_implies, implies_true, forall_const, Bool.not_true, Bool.not_false]
    subst eR2
    simp only [fLenSet, fMul3, dTr, tru, dAsgT, gS, dMake2, dCBK, fMinD, dCallG, fRepr, fEqS, dSq, dAsg, dNx, dExp, dRet, dRetN, dIfS, dBk, dCt, dAppend, dInsert, dRemove, dPopAt, dSetAt, dRaise, dRaise0, dRaiseL, dVar, dC, dOp, dT, dChain, dNotT, dAndT, dOrT, dAndV, dOrV, dNotV, dIf, dNeg, dNil, dCons, dCB, dTup, dLst, dCall, dCallV, dCallF, dFld, dNoPart, dPart, dSl, dIsSeq, dBM, dTM, dXf, dYes, fSub, fDiv, fMod, fPow, fAdd, fCat, fMul, fRep, fLt, fLe, fGt, fGe, fIs, fIsNot, fIx, fSl, fSlL, fLen, fList, fTuple, fMax2, fMin2, fMax, fMin, fAbs, fInt, fIsi, fIsiN, fIsiC, gN, gT, gT0, gTC, diSeq, diRng1, diRng2, diEnum, dstart, De.off, exD, suiteD, List.map_cons, List.map_nil, List.length_cons, List.length_nil, Nat.reduceAdd, Nat.reduceSub, List.replicate_succ, List.replicate_zero, List.getElem?_cons_zero, List.getElem?_cons_succ, List.set_cons_zero, List.set_cons_succ, Option.some.injEq, exists_eq_left', exists_eq_left, exists_and_left, D.int.injEq, D.bl.injEq, D.lst.injEq, D.tup.injEq, D.str.injEq, D.exc.injEq, List.cons.injEq, and_true, true_and, List.nil_append, List.cons_append, List.append_nil, reduceCtorEq, false_and, exists_false, or_false, false_or, or_true, true_or, and_false, Int.reduceNeg, decide_eq_true_eq, Bool.not_eq_true', decide_eq_false_iff_not, and_assoc, Nat.zero_le, List.length_map, Int.zero_add, Int.reduceLT, Int.reduceLE, Int.reducePow, Int.reduceToNat, Int.reduceAdd, Int.reduceMul, Int.reduceSub, Nat.reduceLeDiff, fEq_ints, fNe_ints, fEq_lstsI, fNe_lstsI, fEq_tupsI, fNe_tupsI, noLA_ints, fSum_lst, fSum_tup, fSorted_lst, fSorted_tup, ↓reduceIte, Bool.false_eq_true, Bool.true_eq_false, false_implies, true_implies, implies_true, forall_const, Bool.not_true, Bool.not_false, s_d_l_draw, sDraw]
    intro d d0 d1
    refine ⟨nm, .int (1 + d), op, rfl, opk, .inr (.inl ⟨hnm, rfl, .inr ⟨wc (by omega) (by omega), opw, two, fNe_self shP ?_⟩⟩)⟩
    simp only [fLenSet, fMul3, dTr, tru, dAsgT, gS, dMake2, dCBK, fMinD, dCallG, fRepr, fEqS, dSq, dAsg, dNx, dExp, dRet, dRetN, dIfS, dBk, dCt, dAppend, dInsert, dRemove, dPopAt, dSetAt, dRaise, dRaise0, dRaiseL, dVar, dC, dOp, dT, dChain, dNotT, dAndT, dOrT, dAndV, dOrV, dNotV, dIf, dNeg, dNil, dCons, dCB, dTup, dLst, dCall, dCallV, dCallF, dFld, dNoPart, dPart, dSl, dIsSeq, dBM, dTM, dXf, dYes, fSub, fDiv, fMod, fPow, fAdd, fCat, fMul, fRep, fLt, fLe, fGt, fGe, fIs, fIsNot, fIx, fSl, fSlL, fLen, fList, fTuple, fMax2, fMin2, fMax, fMin, fAbs, fInt, fIsi, fIsiN, fIsiC, gN, gT, gT0, gTC, diSeq, diRng1, diRng2, diEnum, dstart, De.off, exD, suiteD, List.map_cons, List.map_nil, List.length_cons, List.length_nil, Nat.reduceAdd, Nat.reduceSub, List.replicate_succ, List.replicate_zero, List.getElem?_cons_zero, List.getElem?_cons_succ, List.set_cons_zero, List.set_cons_succ, Option.some.injEq, exists_eq_left', exists_eq_left, exists_and_left, D.int.injEq, D.bl.injEq, D.lst.injEq, D.tup.injEq, D.str.injEq, D.exc.injEq, List.cons.injEq, and_true, true_and, List.nil_append, List.cons_append, List.append_nil, reduceCtorEq, false_and, exists_false, or_false, false_or, or_true, true_or, and_false, Int.reduceNeg, decide_eq_true_eq, Bool.not_eq_true', decide_eq_false_iff_not, and_assoc, Nat.zero_le, List.length_map, Int.zero_add, Int.reduceLT, Int.reduceLE, Int.reducePow, Int.reduceToNat, Int.reduceAdd, Int.reduceMul, Int.reduceSub, Nat.reduceLeDiff, fEq_ints, fNe_ints, fEq_lstsI, fNe_lstsI, fEq_tupsI, fNe_tupsI, noLA_ints, fSum_lst, fSum_tup, fSorted_lst, fSorted_tup, ↓reduceIte, Bool.false_eq_true, Bool.true_eq_false, false_implies, true_implies, implies_true, forall_const, Bool.not_true, Bool.not_false]
    exact hN _ ⟨_, rfl⟩
  · rintro δ' ⟨v, rfl⟩
    subst eR
    dsimp only
    refine sq_cut fun R eR => ?_
    simp only [fLenSet, fMul3, dTr, tru, dAsgT, gS, dMake2, dCBK, fMinD, dCallG, fRepr, fEqS, dSq, dAsg, dNx, dExp, dRet, dRetN, dIfS, dBk, dCt, dAppend, dInsert, dRemove, dPopAt, dSetAt, dRaise, dRaise0, dRaiseL, dVar, dC, dOp, dT, dChain, dNotT, dAndT, dOrT, dAndV, dOrV, dNotV, dIf, dNeg, dNil, dCons, dCB, dTup, dLst, dCall, dCallV, dCallF, dFld, dNoPart, dPart, dSl, dIsSeq, dBM, dTM, dXf, dYes, fSub, fDiv, fMod, fPow, fAdd, fCat, fMul, fRep, fLt, fLe, fGt, fGe, fIs, fIsNot, fIx, fSl, fSlL, fLen, fList, fTuple, fMax2, fMin2, fMax, fMin, fAbs, fInt, fIsi, fIsiN, fIsiC, gN, gT, gT0, gTC, diSeq, diRng1, diRng2, diEnum, dstart, De.off, exD, suiteD, List.map_cons, List.map_nil, List.length_cons, List.length_nil, Nat.reduceAdd, Nat.reduceSub, List.replicate_succ, List.replicate_zero, List.getElem?_cons_zero, List.getElem?_cons_succ, List.set_cons_zero, List.set_cons_succ, Option.some.injEq, exists_eq_left', exists_eq_left, exists_and_left, D.int.injEq, D.bl.injEq, D.lst.injEq, D.tup.injEq, D.str.injEq, D.exc.injEq, List.cons.injEq, and_true, true_and, List.nil_append, List.cons_append, List.append_nil, reduceCtorEq, false_and, exists_false, or_false, false_or, or_true, true_or, and_false, Int.reduceNeg, decide_eq_true_eq, Bool.not_eq_true', decide_eq_false_iff_not, and_assoc, Nat.zero_le, List.length_map, Int.zero_add, Int.reduceLT, Int.reduceLE, Int.reducePow, Int.reduceToNat, Int.reduceAdd, Int.reduceMul, Int.reduceSub, Nat.reduceLeDiff, fEq_ints, fNe_ints, fEq_lstsI, fNe_lstsI, fEq_tupsI, fNe_tupsI, noLA_ints, fSum_lst, fSum_tup, fSorted_lst, fSorted_tup, ↓reduceIte, Bool.false_eq_true, Bool.true_eq_false, false_implies, true_implies, implies_true, forall_const, Bool.not_true, Bool.not_false]
    refine ⟨_, ot, .int p, rfl, pk, .inl ⟨rfl, otk, .inl ⟨otw, two, fNe_self shT ?_⟩⟩⟩
    simp only [fLenSet, fMul3, dTr, tru, dAsgT, gS, dMake2, dCBK, fMinD, dCallG, fRepr, fEqS, dSq, dAsg, dNx, dExp, dRet, dRetN, dIfS, dBk, dCt, dAppend, dInsert, dRemove, dPopAt, dSetAt, dRaise, dRaise0, dRaiseL, dVar, dC, dOp, dT, dChain, dNotT, dAndT, dOrT, dAndV, dOrV, dNotV, dIf, dNeg, dNil, dCons, dCB, dTup, dLst, dCall, dCallV, dCallF, dFld, dNoPart, dPart, dSl, dIsSeq, dBM, dTM, dXf, dYes, fSub, fDiv, fMod, fPow, fAdd, fCat, fMul, fRep, fLt, fLe, fGt, fGe, fIs, fIsNot, fIx, fSl, fSlL, fLen, fList, fTuple, fMax2, fMin2, fMax, fMin, fAbs, fInt, fIsi, fIsiN, fIsiC, gN, gT, gT0, gTC, diSeq, diRng1, diRng2, diEnum, dstart, De.off, exD, suiteD, List.map_cons, List.map_nil, List.length_cons, List.length_nil, Nat.reduceAdd, Nat.reduceSub, List.replicate_succ, List.replicate_zero, List.getElem?_cons_zero, List.getElem?_cons_succ, List.set_cons_zero, List.set_cons_succ, Option.some.injEq, exists_eq_left', exists_eq_left, exists_and_left, D.int.injEq, D.bl.injEq, D.lst.injEq, D.tup.injEq, D.str.injEq, D.exc.injEq, List.cons.injEq, and_true, true_and, List.nil_append, List.cons_append, List.append_nil, reduceCtorEq, false_and, exists_false, or_false, false_or, or_true, true_or, and_false, Int.reduceNeg, decide_eq_true_eq, Bool.not_eq_true', decide_eq_false_iff_not, and_assoc, Nat.zero_le, List.length_map, Int.zero_add, Int.reduceLT, Int.reduceLE, Int.reducePow, Int.reduceToNat, Int.reduceAdd, Int.reduceMul, Int.reduceSub, Nat.reduceLeDiff, fEq_ints, fNe_ints, fEq_lstsI, fNe_lstsI, fEq_tupsI, fNe_tupsI, noLA_ints, fSum_lst, fSum_tup, fSorted_lst, fSorted_tup, ↓reduceIte, Bool.false_eq_true, Bool.true_eq_false, false_implies, true_implies, implies_true, forall_const, Bool.not_true, Bool.not_false]
    refine ⟨_, ot, op, rfl, opk, .inl ⟨rfl, otk, .inl ⟨otw, two, fNe_self shT ?_⟩⟩⟩
    simp only [fLenSet, fMul3, dTr, tru, dAsgT, gS, dMake2, dCBK, fMinD, dCallG, fRepr, fEqS, dSq, dAsg, dNx, dExp, dRet, dRetN, dIfS, dBk, dCt, dAppend, dInsert, dRemove, dPopAt, dSetAt, dRaise, dRaise0, dRaiseL, dVar, dC, dOp, dT, dChain, dNotT, dAndT, dOrT, dAndV, dOrV, dNotV, dIf, dNeg, dNil, dCons, dCB, dTup, dLst, dCall, dCallV, dCallF, dFld, dNoPart, dPart, dSl, dIsSeq, dBM, dTM, dXf, dYes, fSub, fDiv, fMod, fPow, fAdd, fCat, fMul, fRep, fLt, fLe, fGt, fGe, fIs, fIsNot, fIx, fSl, fSlL, fLen, fList, fTuple, fMax2, fMin2, fMax, fMin, fAbs, fInt, fIsi, fIsiN, fIsiC, gN, gT, gT0, gTC, diSeq, diRng1, diRng2, diEnum, dstart, De.off, exD, suiteD, List.map_cons, List.map_nil, List.length_cons, List.length_nil, Nat.reduceAdd, Nat.reduceSub, List.replicate_succ, List.replicate_zero, List.getElem?_cons_zero, List.getElem?_cons_succ, List.set_cons_zero, List.set_cons_succ, Option.some.injEq, exists_eq_left', exists_eq_left, exists_and_left, D.int.injEq, D.bl.injEq, D.lst.injEq, D.tup.injEq, D.str.injEq, D.exc.injEq, List.cons.injEq, and_true, true_and, List.nil_append, List.cons_append, List.append_nil, reduceCtorEq, false_and, exists_false, or_false, false_or, or_true, true_or, and_false, Int.reduceNeg, decide_eq_true_eq, Bool.not_eq_true', decide_eq_false_iff_not, and_assoc, Nat.zero_le, List.length_map, Int.zero_add, Int.reduceLT, Int.reduceLE, Int.reducePow, Int.reduceToNat, Int.reduceAdd, Int.reduceMul, Int.reduceSub, Nat.reduceLeDiff, fEq_ints, fNe_ints, fEq_lstsI, fNe_lstsI, fEq_tupsI, fNe_tupsI, noLA_ints, fSum_lst, fSum_tup, fSorted_lst, fSorted_tup, ↓reduceIte, Bool.false_eq_true, Bool.true_eq_false, false_implies, true_implies, implies_true, forall_const, Bool.not_true, Bool.not_false]
    subst eR
    refine sq_cut fun R eR => ?_
    simp only [fLenSet, fMul3, dTr, tru, dAsgT, gS, dMake2, dCBK, fMinD, dCallG, fRepr, fEqS, dSq, dAsg, dNx, dExp, dRet, dRetN, dIfS, dBk, dCt, dAppend, dInsert, dRemove, dPopAt, dSetAt, dRaise, dRaise0, dRaiseL, dVar, dC, dOp, dT, dChain, dNotT, dAndT, dOrT, dAndV, dOrV, dNotV, dIf, dNeg, dNil, dCons, dCB, dTup, dLst, dCall, dCallV, dCallF, dFld, dNoPart, dPart, dSl, dIsSeq, dBM, dTM, dXf, dYes, fSub, fDiv, fMod, fPow, fAdd, fCat, fMul, fRep, fLt, fLe, fGt, fGe, fIs, fIsNot, fIx, fSl, fSlL, fLen, fList, fTuple, fMax2, fMin2, fMax, fMin, fAbs, fInt, fIsi, fIsiN, fIsiC, gN, gT, gT0, gTC, diSeq, diRng1, diRng2, diEnum, dstart, De.off, exD, suiteD, List.map_cons, List.map_nil, List.length_cons, List.length_nil, Nat.reduceAdd, Nat.reduceSub, List.replicate_succ, List.replicate_zero, List.getElem?_cons_zero, List.getElem?_cons_succ, List.set_cons_zero, List.set_cons_succ, Option.some.injEq, exists_eq_left', exists_eq_left, exists_and_left, D.int.injEq, D.bl.injEq, D.lst.injEq, D.tup.injEq, D.str.injEq, D.exc.injEq, List.cons.injEq, and_true, true_and, List.nil_append, List.cons_append, List.append_nil, reduceCtorEq, false_and, exists_false, or_false, false_or, or_true, true_or, and_false, Int.reduceNeg, decide_eq_true_eq, Bool.not_eq_true', decide_eq_false_iff_not, and_assoc, Nat.zero_le, List.length_map, Int.zero_add, Int.reduceLT, Int.reduceLE, Int.reducePow, Int.reduceToNat, Int.reduceAdd, Int.reduceMul, Int.reduceSub, Nat.reduceLeDiff, fEq_ints, fNe_ints, fEq_lstsI, fNe_lstsI, fEq_tupsI, fNe_tupsI, noLA_ints, fSum_lst, fSum_tup, fSorted_lst, fSorted_tup, ↓reduceIte, Bool.false_eq_true, Bool.true_eq_false, false_implies, true_implies, implies_true, forall_const, Bool.not_true, Bool.not_false, s_d_l_draw, sDraw]
    intro d d0 d1
    refine ⟨_, .int d, op, rfl, opk, .inl ⟨rfl, rfl, .inr ⟨wc (by omega) (by omega), opw, two, fNe_self shP ?_⟩⟩⟩
    simp only [fLenSet, fMul3, dTr, tru, dAsgT, gS, dMake2, dCBK, fMinD, dCallG, fRepr, fEqS, dSq, dAsg, dNx, dExp, dRet, dRetN, dIfS, dBk, dCt, dAppend, dInsert, dRemove, dPopAt, dSetAt, dRaise, dRaise0, dRaiseL, dVar, dC, dOp, dT, dChain, dNotT, dAndT, dOrT, dAndV, dOrV, dNotV, dIf, dNeg, dNil, dCons, dCB, dTup, dLst, dCall, dCallV, dCallF, dFld, dNoPart, dPart, dSl, dIsSeq, dBM, dTM, dXf, dYes, fSub, fDiv, fMod, fPow, fAdd, fCat, fMul, fRep, fLt, fLe, fGt, fGe, fIs, fIsNot, fIx, fSl, fSlL, fLen, fList, fTuple, fMax2, fMin2, fMax, fMin, fAbs, fInt, fIsi, fIsiN, fIsiC, gN, gT, gT0, gTC, diSeq, diRng1, diRng2, diEnum, dstart, De.off, exD, suiteD, List.map_cons, List.map_nil, List.length_cons, List.length_nil, Nat.reduceAdd, Nat.reduceSub, List.replicate_succ, List.replicate_zero, List.getElem?_cons_zero, List.getElem?_cons_succ, List.set_cons_zero, List.set_cons_succ, Option.some.injEq, exists_eq_left', exists_eq_left, exists_and_left, D.int.injEq, D.bl.injEq, D.lst.injEq, D.tup.injEq, D.str.injEq, D.exc.injEq, List.cons.injEq, and_true, true_and, List.nil_append, List.cons_append, List.append_nil, reduceCtorEq, false_and, exists_false, or_false, false_or, or_true, true_or, and_false, Int.reduceNeg, decide_eq_true_eq, Bool.not_eq_true', decide_eq_false_iff_not, and_assoc, Nat.zero_le, List.length_map, Int.zero_add, Int.reduceLT, Int.reduceLE, Int.reducePow, Int.reduceToNat, Int.reduceAdd, Int.reduceMul, Int.reduceSub, Nat.reduceLeDiff, fEq_ints, fNe_ints, fEq_lstsI, fNe_lstsI, fEq_tupsI, fNe_tupsI, noLA_ints, fSum_lst, fSum_tup, fSorted_lst, fSorted_tup, ↓reduceIte, Bool.false_eq_true, Bool.true_eq_false, false_implies, true_implies, implies_true, forall_const, Bool.not_true, Bool.not_false]
    subst eR
    refine sq_cut fun R eR => ?_
    simp only [fLenSet, fMul3, dTr, tru, dAsgT, gS, dMake2, dCBK, fMinD, dCallG, fRepr, fEqS, dSq, dAsg, dNx, dExp, dRet, dRetN, dIfS, dBk, dCt, dAppend, dInsert, dRemove, dPopAt, dSetAt, dRaise, dRaise0, dRaiseL, dVar, dC, dOp, dT, dChain, dNotT, dAndT, dOrT, dAndV, dOrV, dNotV, dIf, dNeg, dNil, dCons, dCB, dTup, dLst, dCall, dCallV, dCallF, dFld, dNoPart, dPart, dSl, dIsSeq, dBM, dTM, dXf, dYes, fSub, fDiv, fMod, fPow, fAdd, fCat, fMul, fRep, fLt, fLe, fGt, fGe, fIs, fIsNot, fIx, fSl, fSlL, fLen, fList, fTuple, fMax2, fMin2, fMax, fMin, fAbs, fInt, fIsi, fIsiN, fIsiC, gN, gT, gT0, gTC, diSeq, diRng1, diRng2, diEnum, dstart, De.off, exD, suiteD, List.map_cons, List.map_nil, List.length_cons, List.length_nil, Nat.reduceAdd, Nat.reduceSub, List.replicate_succ, List.replicate_zero, List.getElem?_cons_zero, List.getElem?_cons_succ, List.set_cons_zero, List.set_cons_succ, Option.some.injEq, exists_eq_left', exists_eq_left, exists_and_left, D.int.injEq, D.bl.injEq, D.lst.injEq, D.tup.injEq, D.str.injEq, D.exc.injEq, List.cons.injEq, and_true, true_and, List.nil_append, List.cons_append, List.append_nil, reduceCtorEq, false_and, exists_false, or_false, false_or, or_true, true_or, and_false, Int.reduceNeg, decide_eq_true_eq, Bool.not_eq_true', decide_eq_false_iff_not, and_assoc, Nat.zero_le, List.length_map, Int.zero_add, Int.reduceLT, Int.reduceLE, Int.reducePow, Int.reduceToNat, Int.reduceAdd, Int.reduceMul, Int.reduceSub, Nat.reduceLeDiff, fEq_ints, fNe_ints, fEq_lstsI, fNe_lstsI, fEq_tupsI, fNe_tupsI, noLA_ints, fSum_lst, fSum_tup, fSorted_lst, fSorted_tup, ↓reduceIte, Bool.false_eq_true, Bool.true_eq_false, false_implies, true_implies, implies_true, forall_const, Bool.not_true, Bool.not_false]
    refine ⟨two, _, _, op, rfl, opk, .inr (.inr ⟨rfl, on, ou, rfl, onk, ouk, .inl ⟨onw, two, fNe_self shN ?_⟩⟩)⟩
    simp only [fLenSet, fMul3, dTr, tru, dAsgT, gS, dMake2, dCBK, fMinD, dCallG, fRepr, fEqS, dSq, dAsg, dNx, dExp, dRet, dRetN, dIfS, dBk, dCt, dAppend, dInsert, dRemove, dPopAt, dSetAt, dRaise, dRaise0, dRaiseL, dVar, dC, dOp, dT, dChain, dNotT, dAndT, dOrT, dAndV, dOrV, dNotV, dIf, dNeg, dNil, dCons, dCB, dTup, dLst, dCall, dCallV, dCallF, dFld, dNoPart, dPart, dSl, dIsSeq, dBM, dTM, dXf, dYes, fSub, fDiv, fMod, fPow, fAdd, fCat, fMul, fRep, fLt, fLe, fGt, fGe, fIs, fIsNot, fIx, fSl, fSlL, fLen, fList, fTuple, fMax2, fMin2, fMax, fMin, fAbs, fInt, fIsi, fIsiN, fIsiC, gN, gT, gT0, gTC, diSeq, diRng1, diRng2, diEnum, dstart, De.off, exD, suiteD, List.map_cons, List.map_nil, List.length_cons, List.length_nil, Nat.reduceAdd, Nat.reduceSub, List.replicate_succ, List.replicate_zero, List.getElem?_cons_zero, List.getElem?_cons_succ, List.set_cons_zero, List.set_cons_succ, Option.some.injEq, exists_eq_left', exists_eq_left, exists_and_left, D.int.injEq, D.bl.injEq, D.lst.injEq, D.tup.injEq, D.str.injEq, D.exc.injEq, List.cons.injEq, and_true, true_and, List.nil_append, List.cons_append, List.append_nil, reduceCtorEq, false_and, exists_false, or_false, false_or, or_true, true_or, and_false, Int.reduceNeg, decide_eq_true_eq, Bool.not_eq_true', decide_eq_false_iff_not, and_assoc, Nat.zero_le, List.length_map, Int.zero_add, Int.reduceLT, Int.reduceLE, Int.reducePow, Int.reduceToNat, Int.reduceAdd, Int.reduceMul, Int.reduceSub, Nat.reduceLeDiff, fEq_ints, fNe_ints, fEq_lstsI, fNe_lstsI, fEq_tupsI, fNe_tupsI, noLA_ints, fSum_lst, fSum_tup, fSorted_lst, fSorted_tup, ↓reduceIte, Bool.false_eq_true, Bool.true_eq_false, false_implies, true_implies, implies_true, forall_const, Bool.not_true, Bool.not_false]
    subst eR
    refine sq_cut fun R eR => ?_
    simp only [fLenSet, fMul3, dTr, tru, dAsgT, gS, dMake2, dCBK, fMinD, dCallG, fRepr, fEqS, dSq, dAsg, dNx, dExp, dRet, dRetN, dIfS, dBk, dCt, dAppend, dInsert, dRemove, dPopAt, dSetAt, dRaise, dRaise0, dRaiseL, dVar, dC, dOp, dT, dChain, dNotT, dAndT, dOrT, dAndV, dOrV, dNotV, dIf, dNeg, dNil, dCons, dCB, dTup, dLst, dCall, dCallV, dCallF, dFld, dNoPart, dPart, dSl, dIsSeq, dBM, dTM, dXf, dYes, fSub, fDiv, fMod, fPow, fAdd, fCat, fMul, fRep, fLt, fLe, fGt, fGe, fIs, fIsNot, fIx, fSl, fSlL, fLen, fList, fTuple, fMax2, fMin2, fMax, fMin, fAbs, fInt, fIsi, fIsiN, fIsiC, gN, gT, gT0, gTC, diSeq, diRng1, diRng2, diEnum, dstart, De.off, exD, suiteD, List.map_cons, List.map_nil, List.length_cons, List.length_nil, Nat.reduceAdd, Nat.reduceSub, List.replicate_succ, List.replicate_zero, List.getElem?_cons_zero, List.getElem?_cons_succ, List.set_cons_zero, List.set_cons_succ, Option.some.injEq, exists_eq_left', exists_eq_left, exists_and_left, D.int.injEq, D.bl.injEq, D.lst.injEq, D.tup.injEq, D.str.injEq, D.exc.injEq, List.cons.injEq, and_true, true_and, List.nil_append, List.cons_append, List.append_nil, reduceCtorEq, false_and, exists_false, or_false, false_or, or_true, true_or, and_false, Int.reduceNeg, decide_eq_true_eq, Bool.not_eq_true', decide_eq_false_iff_not, and_assoc, Nat.zero_le, List.length_map, Int.zero_add, Int.reduceLT, Int.reduceLE, Int.reducePow, Int.reduceToNat, Int.reduceAdd, Int.reduceMul, Int.reduceSub, Nat.reduceLeDiff, fEq_ints, fNe_ints, fEq_lstsI, fNe_lstsI, fEq_tupsI, fNe_tupsI, noLA_ints, fSum_lst, fSum_tup, fSorted_lst, fSorted_tup, ↓reduceIte, Bool.false_eq_true, Bool.true_eq_false, false_implies, true_implies, implies_true, forall_const, Bool.not_true, Bool.not_false, s_d_l_draw, sDraw]
    refine fun d d0 d1 => ⟨two, _, _, op, rfl, opk, .inr (.inr ⟨rfl, .int d, ou, rfl, rfl, ouk, .inr (.inl ⟨wc (by omega) (by omega), ouw, two, fNe_self shU ?_⟩)⟩)⟩
    simp only [fLenSet, fMul3, dTr, tru, dAsgT, gS, dMake2, dCBK, fMinD, dCallG, fRepr, fEqS, dSq, dAsg, dNx, dExp, dRet, dRetN, dIfS, dBk, dCt, dAppend, dInsert, dRemove, dPopAt, dSetAt, dRaise, dRaise0, dRaiseL, dVar, dC, dOp, dT, dChain, dNotT, dAndT, dOrT, dAndV, dOrV, dNotV, dIf, dNeg, dNil, dCons, dCB, dTup, dLst, dCall, dCallV, dCallF, dFld, dNoPart, dPart, dSl, dIsSeq, dBM, dTM, dXf, dYes, fSub, fDiv, fMod, fPow, fAdd, fCat, fMul, fRep, fLt, fLe, fGt, fGe, fIs, fIsNot, fIx, fSl, fSlL, fLen, fList, fTuple, fMax2, fMin2, fMax, fMin, fAbs, fInt, fIsi, fIsiN, fIsiC, gN, gT, gT0, gTC, diSeq, diRng1, diRng2, diEnum, dstart, De.off, exD, suiteD, List.map_cons, List.map_nil, List.length_cons, List.length_nil, Nat.reduceAdd, Nat.reduceSub, List.replicate_succ, List.replicate_zero, List.getElem?_cons_zero, List.getElem?_cons_succ, List.set_cons_zero, List.set_cons_succ, Option.some.injEq, exists_eq_left', exists_eq_left, exists_and_left, D.int.injEq, D.bl.injEq, D.lst.injEq, D.tup.injEq, D.str.injEq, D.exc.injEq, List.cons.injEq, and_true, true_and, List.nil_append, List.cons_append, List.append_nil, reduceCtorEq, false_and, exists_false, or_false, false_or, or_true, true_or, and_false, Int.reduceNeg, decide_eq_true_eq, Bool.not_eq_true', decide_eq_false_iff_not, and_assoc, Nat.zero_le, List.length_map, Int.zero_add, Int.reduceLT, Int.reduceLE, Int.reducePow, Int.reduceToNat, Int.reduceAdd, Int.reduceMul, Int.reduceSub, Nat.reduceLeDiff, fEq_ints, fNe_ints, fEq_lstsI, fNe_lstsI, fEq_tupsI, fNe_tupsI, noLA_ints, fSum_lst, fSum_tup, fSorted_lst, fSorted_tup, ↓reduceIte, Bool.false_eq_true, Bool.true_eq_false, false_implies, true_implies, implies_true, forall_const, Bool.not_true, Bool.not_false]
    subst eR
    refine sq_cut fun R eR => ?_
    simp only [fLenSet, fMul3, dTr, tru, dAsgT, gS, dMake2, dCBK, fMinD, dCallG, fRepr, fEqS, dSq, dAsg, dNx, dExp, dRet, dRetN, dIfS, dBk, dCt, dAppend, dInsert, dRemove, dPopAt, dSetAt, dRaise, dRaise0, dRaiseL, dVar, dC, dOp, dT, dChain, dNotT, dAndT, dOrT, dAndV, dOrV, dNotV, dIf, dNeg, dNil, dCons, dCB, dTup, dLst, dCall, dCallV, dCallF, dFld, dNoPart, dPart, dSl, dIsSeq, dBM, dTM, dXf, dYes, fSub, fDiv, fMod, fPow, fAdd, fCat, fMul, fRep, fLt, fLe, fGt, fGe, fIs, fIsNot, fIx, fSl, fSlL, fLen, fList, fTuple, fMax2, fMin2, fMax, fMin, fAbs, fInt, fIsi, fIsiN, fIsiC, gN, gT, gT0, gTC, diSeq, diRng1, diRng2, diEnum, dstart, De.off, exD, suiteD, List.map_cons, List.map_nil, List.length_cons, List.length_nil, Nat.reduceAdd, Nat.reduceSub, List.replicate_succ, List.replicate_zero, List.getElem?_cons_zero, List.getElem?_cons_succ, List.set_cons_zero, List.set_cons_succ, Option.some.injEq, exists_eq_left', exists_eq_left, exists_and_left, D.int.injEq, D.bl.injEq, D.lst.injEq, D.tup.injEq, D.str.injEq, D.exc.injEq, List.cons.injEq, and_true, true_and, List.nil_append, List.cons_append, List.append_nil, reduceCtorEq, false_and, exists_false, or_false, false_or, or_true, true_or, and_false, Int.reduceNeg, decide_eq_true_eq, Bool.not_eq_true', decide_eq_false_iff_not, and_assoc, Nat.zero_le, List.length_map, Int.zero_add, Int.reduceLT, Int.reduceLE, Int.reducePow, Int.reduceToNat, Int.reduceAdd, Int.reduceMul, Int.reduceSub, Nat.reduceLeDiff, fEq_ints, fNe_ints, fEq_lstsI, fNe_lstsI, fEq_tupsI, fNe_tupsI, noLA_ints, fSum_lst, fSum_tup, fSorted_lst, fSorted_tup, ↓reduceIte, Bool.false_eq_true, Bool.true_eq_false, false_implies, true_implies, implies_true, forall_const, Bool.not_true, Bool.not_false]
    refine ⟨two, _, _, .int p, rfl, pk, .inr (.inr ⟨rfl, on, .int 3, rfl, onk, rfl, .inl ⟨onw, two, fNe_self shN ?_⟩⟩)⟩
    simp only [fLenSet, fMul3, dTr, tru, dAsgT, gS, dMake2, dCBK, fMinD, dCallG, fRepr, fEqS, dSq, dAsg, dNx, dExp, dRet, dRetN, dIfS, dBk, dCt, dAppend, dInsert, dRemove, dPopAt, dSetAt, dRaise, dRaise0, dRaiseL, dVar, dC, dOp, dT, dChain, dNotT, dAndT, dOrT, dAndV, dOrV, dNotV, dIf, dNeg, dNil, dCons, dCB, dTup, dLst, dCall, dCallV, dCallF, dFld, dNoPart, dPart, dSl, dIsSeq, dBM, dTM, dXf, dYes, fSub, fDiv, fMod, fPow, fAdd, fCat, fMul, fRep, fLt, fLe, fGt, fGe, fIs, fIsNot, fIx, fSl, fSlL, fLen, fList, fTuple, fMax2, fMin2, fMax, fMin, fAbs, fInt, fIsi, fIsiN, fIsiC, gN, gT, gT0, gTC, diSeq, diRng1, diRng2, diEnum, dstart, De.off, exD, suiteD, List.map_cons, List.map_nil, List.length_cons, List.length_nil, Nat.reduceAdd, Nat.reduceSub, List.replicate_succ, List.replicate_zero, List.getElem?_cons_zero, List.getElem?_cons_succ, List.set_cons_zero, List.set_cons_succ, Option.some.injEq, exists_eq_left', exists_eq_left, exists_and_left, D.int.injEq, D.bl.injEq, D.lst.injEq, D.tup.injEq, D.str.injEq, D.exc.injEq, List.cons.injEq, and_true, true_and, List.nil_append, List.cons_append, List.append_nil, reduceCtorEq, false_and, exists_false, or_false, false_or, or_true, true_or, and_false, Int.reduceNeg, decide_eq_true_eq, Bool.not_eq_true', decide_eq_false_iff_not, and_assoc, Nat.zero_le, List.length_map, Int.zero_add, Int.reduceLT, Int.reduceLE, Int.reducePow, Int.reduceToNat, Int.reduceAdd, Int.reduceMul, Int.reduceSub, Nat.reduceLeDiff, fEq_ints, fNe_ints, fEq_lstsI, fNe_lstsI, fEq_tupsI, fNe_tupsI, noLA_ints, fSum_lst, fSum_tup, fSorted_lst, fSorted_tup, ↓reduceIte, Bool.false_eq_true, Bool.true_eq_false, false_implies, true_implies, implies_true, forall_const, Bool.not_true, Bool.not_false]
    refine ⟨two, _, _, .int p, rfl, pk, .inr (.inr ⟨rfl, .int 5, ou, rfl, rfl, ouk, .inr (.inl ⟨rfl, ouw, two, fNe_self shU ?_⟩)⟩)⟩
    simp only [fLenSet, fMul3, dTr, tru, dAsgT, gS, dMake2, dCBK, fMinD, dCallG, fRepr, fEqS, dSq, dAsg, dNx, dExp, dRet, dRetN, dIfS, dBk, dCt, dAppend, dInsert, dRemove, dPopAt, dSetAt, dRaise, dRaise0, dRaiseL, dVar, dC, dOp, dT, dChain, dNotT, dAndT, dOrT, dAndV, dOrV, dNotV, dIf, dNeg, dNil, dCons, dCB, dTup, dLst, dCall, dCallV, dCallF, dFld, dNoPart, dPart, dSl, dIsSeq, dBM, dTM, dXf, dYes, fSub, fDiv, fMod, fPow, fAdd, fCat, fMul, fRep, fLt, fLe, fGt, fGe, fIs, fIsNot, fIx, fSl, fSlL, fLen, fList, fTuple, fMax2, fMin2, fMax, fMin, fAbs, fInt, fIsi, fIsiN, fIsiC, gN, gT, gT0, gTC, diSeq, diRng1, diRng2, diEnum, dstart, De.off, exD, suiteD, List.map_cons, List.map_nil, List.length_cons, List.length_nil, Nat.reduceAdd, Nat.reduceSub, List.replicate_succ, List.replicate_zero, List.getElem?_cons_zero, List.getElem?_cons_succ, List.set_cons_zero, List.set_cons_succ, Option.some.injEq, exists_eq_left', exists_eq_left, exists_and_left, D.int.injEq, D.bl.injEq, D.lst.injEq, D.tup.injEq, D.str.injEq, D.exc.injEq, List.cons.injEq, and_true, true_and, List.nil_append, List.cons_append, List.append_nil, reduceCtorEq, false_and, exists_false, or_false, false_or, or_true, true_or, and_false, Int.reduceNeg, decide_eq_true_eq, Bool.not_eq_true', decide_eq_false_iff_not, and_assoc, Nat.zero_le, List.length_map, Int.zero_add, Int.reduceLT, Int.reduceLE, Int.reducePow, Int.reduceToNat, Int.reduceAdd, Int.reduceMul, Int.reduceSub, Nat.reduceLeDiff, fEq_ints, fNe_ints, fEq_lstsI, fNe_lstsI, fEq_tupsI, fNe_tupsI, noLA_ints, fSum_lst, fSum_tup, fSorted_lst, fSorted_tup, ↓reduceIte, Bool.false_eq_true, Bool.true_eq_false, false_implies, true_implies, implies_true, forall_const, Bool.not_true, Bool.not_false]
    subst eR
    simp only [fLenSet, fMul3, dTr, tru, dAsgT, gS, dMake2, dCBK, fMinD, dCallG, fRepr, fEqS, dSq, dAsg, dNx, dExp, dRet, dRetN, dIfS, dBk, dCt, dAppend, dInsert, dRemove, dPopAt, dSetAt, dRaise, dRaise0, dRaiseL, dVar, dC, dOp, dT, dChain, dNotT, dAndT, dOrT, dAndV, dOrV, dNotV, dIf, dNeg, dNil, dCons, dCB, dTup, dLst, dCall, dCallV, dCallF, dFld, dNoPart, dPart, dSl, dIsSeq, dBM, dTM, dXf, dYes, fSub, fDiv, fMod, fPow, fAdd, fCat, fMul, fRep, fLt, fLe, fGt, fGe, fIs, fIsNot, fIx, fSl, fSlL, fLen, fList, fTuple, fMax2, fMin2, fMax, fMin, fAbs, fInt, fIsi, fIsiN, fIsiC, gN, gT, gT0, gTC, diSeq, diRng1, diRng2, diEnum, dstart, De.off, exD, suiteD, List.map_cons, List.map_nil, List.length_cons, List.length_nil, Nat.reduceAdd, Nat.reduceSub, List.replicate_succ, List.replicate_zero, List.getElem?_cons_zero, List.getElem?_cons_succ, List.set_cons_zero, List.set_cons_succ, Option.some.injEq, exists_eq_left', exists_eq_left, exists_and_left, D.int.injEq, D.bl.injEq, D.lst.injEq, D.tup.injEq, D.str.injEq, D.exc.injEq, List.cons.injEq, and_true, true_and, List.nil_append, List.cons_append, List.append_nil, reduceCtorEq, false_and, exists_false, or_false, false_or, or_true, true_or, and_false, Int.reduceNeg, decide_eq_true_eq, Bool.not_eq_true', decide_eq_false_iff_not, and_assoc, Nat.zero_le, List.length_map, Int.zero_add, Int.reduceLT, Int.reduceLE, Int.reducePow, Int.reduceToNat, Int.reduceAdd, Int.reduceMul, Int.reduceSub, Nat.reduceLeDiff, fEq_ints, fNe_ints, fEq_lstsI, fNe_lstsI, fEq_tupsI, fNe_tupsI, noLA_ints, fSum_lst, fSum_tup, fSorted_lst, fSorted_tup, ↓reduceIte, Bool.false_eq_true, Bool.true_eq_false, false_implies, true_implies, implies_true, forall_const, Bool.not_true, Bool.not_false, s_d_l_draw, sDraw]
    refine fun d d0 d1 e e0 e1 => ⟨two, _, _, op, rfl, opk, .inr (.inr ⟨rfl, .int d, .int (1 + e), rfl, rfl, rfl, .inr (.inr ⟨wc (by omega) (by omega), wc (by omega) (by omega), opw, two, fEq_self shP q⟩)⟩)⟩

end
end My
set_option Elab.async false
set_option linter.all false
set_option maxRecDepth 100000
set_option maxHeartbeats 4000000
namespace My
open PySem PySem.Spec PyProof.Rows L2 Gen DL
section
variable {P : Program} {w : World} {K : PySem.W.Frag} {mg : Str → Option Value} {base : Heap} { cBadPeople cBadCount cBadTotal cBadCoin cBadUnlike : Addr}
/-- all rows of so many coins -/
def rowsK (p : Int) : Nat → List (List Int)
  | 0 => [[]]
  | k + 1 => grown p (rowsK p k)
theorem mem_rowsK {p : Int} : ∀ {k : Nat} {r : List Int}, r ∈ rowsK p k ↔ Row p r ∧ r.length = k
  | 0, r => by
    constructor
    · intro h
      cases List.mem_singleton.mp h
      exact ⟨trivial, rfl⟩
    · rintro ⟨_, h⟩
      rw [List.eq_nil_of_length_eq_zero h]
      exact List.mem_singleton.mpr rfl
  | k + 1, r => by
    show r ∈ grown p (rowsK p k) ↔ _
    rw [mem_grown]
    constructor
    · rintro ⟨a, c, h1, rfl, h2, h3⟩
      obtain ⟨g1, g2⟩ := mem_rowsK.mp h1
      exact ⟨Row.snoc.mpr ⟨g1, h2, h3⟩, by rw [List.length_append, g2]; rfl⟩
    · rintro ⟨h1, h2⟩
      rcases List.eq_nil_or_concat r with rfl | ⟨a, c, rfl⟩
      · cases h2
      · rw [List.concat_eq_append] at *
        obtain ⟨g1, g2, g3⟩ := Row.snoc.mp h1
        exact ⟨a, c, mem_rowsK.mpr ⟨g1, by rw [List.length_append] at h2; simpa using h2⟩, rfl, g2, g3⟩
theorem gr_two {p : Int} (hp : 2 ≤ p) : ∀ k : Nat, gr p k + 1 ≤ 2 ^ k
  | 0 => by
    show (0 : Int) + 1 ≤ 2 ^ 0
    decide
  | k + 1 => by
    have := gr_two hp k
    have := nxt_le hp (gr_pos hp k)
    show gr p k + nxt p (gr p k) + 1 ≤ _
    rw [Int.pow_succ]
    omega
def bnd : Nat → Nat
  | 0 => 1
  | k + 1 => bnd k * 2 ^ k
theorem heap_le {p : Int} {n : Nat} : ∀ {rows : List (List Int)}, (∀ r, r ∈ rows → (nxt p r.sum).toNat ≤ n) → heap_ p rows ≤ rows.length * n
  | [], _ => Nat.zero_le _
  | r :: rows, h => by
    have h1 := h r List.mem_cons_self
    have h2 := heap_le fun q hq => h q (List.mem_cons_of_mem r hq)
    unfold heap_ at *
    rw [List.map_cons, List.sum_cons, List.length_cons, Nat.succ_mul]
    omega
theorem rowsK_len {p : Int} (hp : 2 ≤ p) : ∀ k : Nat, (rowsK p k).length ≤ bnd k ∧ heap_ p (rowsK p k) ≤ bnd (k + 1)
  | 0 => by
    refine ⟨Nat.le_refl _, ?_⟩
    have : nxt p 0 = 1 := by unfold nxt; simp
    show heap_ p [[]] ≤ 1
    unfold heap_
    simp [this]
  | k + 1 => by
    obtain ⟨_, h2⟩ := rowsK_len hp k
    have h3 : (rowsK p (k + 1)).length ≤ bnd (k + 1) := Nat.le_trans (grown_len fun r hr => ((mem_rowsK.mp hr).1.last hp).2) h2
    refine ⟨h3, Nat.le_trans (heap_le (n := 2 ^ (k + 1)) fun r hr => ?_) (Nat.mul_le_mul_right _ h3)⟩
    obtain ⟨g1, g2⟩ := mem_rowsK.mp hr
    have a := row_gr hp g1
    rw [g2] at a
    have b := gr_two hp (k + 1)
    have c := nxt_le hp g1.pos
    have e : ((2 ^ (k + 1) : Nat) : Int) = (2 : Int) ^ (k + 1) := by rw [Int.natCast_pow]; rfl
    refine Int.toNat_le.mpr ?_
    rw [e]
    omega
theorem bnd_le {k : Nat} (h : k ≤ 5) : bnd (k + 1) ≤ 32768 := by
  have : ∀ k : Nat, k ≤ 5 → bnd (k + 1) ≤ 32768 := by decide
  exact this k h
theorem bnd_le6 {k : Nat} (h : k ≤ 6) : bnd k ≤ 32768 := by
  have : ∀ k : Nat, k ≤ 6 → bnd k ≤ 32768 := by decide
  exact this k h
theorem best_sum {p : Int} {u n : Nat} {r q : List Int} (h1 : Best p u n r) (h2 : Best p u n q) : r.sum = q.sum := by
  have := h1.top q h2.row h2.len h2.un
  have := h2.top r h1.row h1.len h1.un
  omega
/-- there is a best row -/
theorem unlike_ok {p : Int} {n u : Nat} {Q : D → Prop} (p0 : 2 ≤ p) (p1 : p ≤ 5) (hn : n ≤ 12) (u1 : 1 ≤ u) (u12 : u ≤ 12) (q : ∀ r, Best p u n r → Q (.tup [.int r.sum, tupI r])) {cU cC cP : Addr} : s_d_greatest_unlike cU cC cP [.int n, .int u, .int p] Q noX := by
  refine ⟨_, _, _, rfl, rfl, rfl, rfl, fun h => ?_, fun n2 e hn2 => ⟨fun h => ?_, fun u2 e2 _ _ => ⟨fun h => ?_, fun p2 e3 _ _ r hr => ?_⟩⟩⟩
  · simp [whole] at h; omega
  · simp [whole] at h; omega
  · simp [whole] at h; omega
  · cases e3
    have : n2 = n := by injection e with e; omega
    subst this
    have : u2 = u := by injection e2 with e2; omega
    subst this
    exact q r hr
def s_d_l_small_right : SpD := fun ds P _ => ∃ p : Int, ds = [.hand, .int p] ∧ 2 ≤ p ∧ p ≤ 5 ∧ P (.bl true)
theorem len_d_l_small_right : ∀ ds P er, s_d_l_small_right ds P er → ds.length = 2 := by rintro _ _ _ ⟨_, rfl, _⟩; rfl
theorem n0_l_small_right : ∀ ds P er, s_d_l_small_right ds P er → s_d_l_small_right ds P noX := fun _ _ _ h => h
theorem ok_l_small_right {f : Addr} {fd : FuncData} (F : Fun K "_law_small_right" "_law_small_right" s_l_small_right f fd) (T : Txt K mg cBadPeople cBadCount cBadTotal cBadCoin cBadUnlike) : FnOk P w K mg base CX0 5 f fd ps_l_small_right (spOf (s_d_l_small_right)) := by
  obtain ⟨f_l_draw, fd_l_draw, F_l_draw, m_l_draw, b_l_draw⟩ := T.d_l_draw
  have G_l_draw : FnOk P w K mg base CX0 2 f_l_draw fd_l_draw ps_l_draw (spOf (s_d_l_draw)) := ok_l_draw F_l_draw T
  obtain ⟨f_l_grown, fd_l_grown, F_l_grown, m_l_grown, b_l_grown⟩ := T.d_l_grown
  have G_l_grown : FnOk P w K mg base CX0 2 f_l_grown fd_l_grown ps_l_grown (spOf (s_d_l_grown)) := ok_l_grown F_l_grown T
  obtain ⟨f_l_best, fd_l_best, F_l_best, m_l_best, b_l_best⟩ := T.d_l_best
  have G_l_best : FnOk P w K mg base CX0 3 f_l_best fd_l_best ps_l_best (spOf (s_d_l_best)) := ok_l_best F_l_best T
  obtain ⟨f_greatest_unlike, fd_greatest_unlike, F_greatest_unlike, m_greatest_unlike, b_greatest_unlike⟩ := T.d_greatest_unlike
  have G_greatest_unlike : FnOk P w K mg base (L2.CX P w) 4 f_greatest_unlike fd_greatest_unlike ps_greatest_unlike (spOf (s_d_greatest_unlike cBadUnlike cBadCount cBadPeople)) := ok_greatest_unlike F_greatest_unlike T
  refine fn0_d (k := 4) (Oe := []) F sc_l_small_right [] _ (len_d_l_small_right) (by decide) (fun cdv A outer sh H E hr => (s_cons (s_set (i := 2) (by decide) sc_l_small_right.nd rfl (Or.inl rfl) (d_call (by decide) G_l_draw (hr.mono (by decide)) (by rfl) m_l_draw F_l_draw.kp b_l_draw .nil (fun _ _ _ => .nil) pass0A (a_cons (d_var (i := 0) (by decide) (pv 0)) (a_cons (d_if (d_tcmp op_lt l_lt (toV (d_var (i := 1) (by decide) (pv 1))) (toV (d_c (y := .int 4) (fun _ _ _ => .int _) pe_int)) (nomark _)) (d_c (y := .int 6) (fun _ _ _ => .int _) pe_int) (d_c (y := .int 7) (fun _ _ _ => .int _) pe_int)) a_nil))))
      (s_cons (s_set (i := 3) (by decide) sc_l_small_right.nd rfl (Or.inl rfl) (ofF (f_lst (a_cons (d_tup a_nil) a_nil))))
      (s_cons (s_for (vs := [4]) PassesOwn.never rfl (by decide) (pi_range1 (by rfl) T.n_range (pa_cons (d_var (i := 2) (by decide) (pv 2)) pa_nil)) (li_rng1 (own := false)) (pg_name (i := 4) sc_l_small_right.nd rfl (Or.inl rfl)) (lg_name (i := 4) (by decide) (by decide))
      (s_one (s_set (i := 3) (by decide) sc_l_small_right.nd rfl (Or.inl rfl) (d_call (by decide) G_l_grown (hr.mono (by decide)) (by rfl) m_l_grown F_l_grown.kp b_l_grown .nil (fun _ _ _ => .nil) pass0A (a_cons (d_var (i := 3) (by decide) (pv 3)) (a_cons (d_var (i := 1) (by decide) (pv 1)) a_nil)))) (fun _ z => z)))
      (s_cons (s_for (vs := [5]) PassesOwn.never rfl (by decide) (pi_seq (ofF (f_lst (a_cons (d_c (y := .int 1) (fun _ _ _ => .int _) pe_int) (a_cons (d_c (y := .int 2) (fun _ _ _ => .int _) pe_int) (a_cons (d_c (y := .int 3) (fun _ _ _ => .int _) pe_int) (a_cons (d_c (y := .int 4) (fun _ _ _ => .int _) pe_int) (a_cons (d_c (y := .int 5) (fun _ _ _ => .int _) pe_int) (a_cons (d_c (y := .int 12) (fun _ _ _ => .int _) pe_int) a_nil))))))))) (li_seq (own := false)) (pg_name (i := 5) sc_l_small_right.nd rfl (Or.inr rfl)) (lg_name (i := 5) (by decide) (by decide))
      (s_cons (s_set (i := 6) (by decide) sc_l_small_right.nd rfl (Or.inl rfl) (d_callB (cr_max rfl) c_max (by rfl) T.n_max (by decide +kernel) (v_cons (toV (ofF (f_lc (ownv := [("_law_row", 7)]) rfl sc_l_small_right.nd (by decide) (pi_seq (d_var (i := 3) (by decide) (pv 3))) (li_seq (own := false)) (blkOk_by (N := nm_l_small_right) (sc := defScope s_l_small_right) (by decide +kernel)) (lg_name (i := 7) (by decide) (by decide)) (fun _ _ _ _ _ => (pg_name (i := 7) sc_l_small_right.nd rfl (Or.inl rfl))) (fun _ _ _ _ _ => (ts_one (d_tcmp op_le l_le (toV (d_lenSet rfl (by rfl) T.n_len (by rfl) T.n_set (v_cons (toV (d_var (i := 7) (by decide) (pv 7))) v_nil))) (toV (d_var (i := 5) (by decide) (pv 5))) (nomark _)))) (fun _ _ _ _ _ => (d_callB (cr_sumE rfl) c_sum (by rfl) T.n_sum (by decide +kernel) (v_cons (toV (d_var (i := 7) (by decide) (pv 7))) v_nil)))))) v_nil)))
      (s_one (s_if (d_tcmp (op_neD hr.units) l_ne (toV (d_call (by decide) G_l_best (hr.mono (by decide)) (by rfl) m_l_best F_l_best.kp b_l_best .nil (fun _ _ _ => .nil) pass0A (a_cons (d_call (by decide) G_greatest_unlike (hr.mono (by decide)) (by rfl) m_greatest_unlike F_greatest_unlike.kp b_greatest_unlike .nil (fun _ _ _ => .nil) (fun σ => L2.passAt takes0 σ) (a_cons (d_var (i := 2) (by decide) (pv 2)) (a_cons (d_var (i := 5) (by decide) (pv 5)) (a_cons (d_var (i := 1) (by decide) (pv 1)) a_nil)))) (a_cons (d_var (i := 2) (by decide) (pv 2)) (a_cons (d_var (i := 5) (by decide) (pv 5)) (a_cons (d_var (i := 1) (by decide) (pv 1)) a_nil)))))) (toV (d_var (i := 6) (by decide) (pv 6))) (nomark _)) (s_one (s_ret (O2 := []) (fun _ z => nomatch z) (d_c (y := .bl false) (fun _ _ _ => .bl _) pe_bl)) (fun _ z => z)) (s_nil (fun _ z => z))) (fun _ z => z))))
      (s_one (s_ret (O2 := []) (fun _ z => nomatch z) (d_c (y := .bl true) (fun _ _ _ => .bl _) pe_bl)) (by decide))))))) ?_ n0_l_small_right
  rintro ds P ⟨p, rfl, p0, p1, q⟩
  have small : (1000000 : Nat) < sizeLine := by decide
  refine sq_cut fun R eR => ?_
  simp only [fLenSet, fMul3, dTr, tru, dAsgT, gS, dMake2, dCBK, fMinD, dCallG, fRepr, fEqS, dSq, dAsg, dNx, dExp, dRet, dRetN, dIfS, dBk, dCt, dAppend, dInsert, dRemove, dPopAt, dSetAt, dRaise, dRaise0, dRaiseL, dVar, dC, dOp, dT, dChain, dNotT, dAndT, dOrT, dAndV, dOrV, dNotV, dIf, dNeg, dNil, dCons, dCB, dTup, dLst, dCall, dCallV, dCallF, dFld, dNoPart, dPart, dSl, dIsSeq, dBM, dTM, dXf, dYes, fSub, fDiv, fMod, fPow, fAdd, fCat, fMul, fRep, fLt, fLe, fGt, fGe, fIs, fIsNot, fIx, fSl, fSlL, fLen, fList, fTuple, fMax2, fMin2, fMax, fMin, fAbs, fInt, fIsi, fIsiN, fIsiC, gN, gT, gT0, gTC, diSeq, diRng1, diRng2, diEnum, dstart, De.off, exD, suiteD, List.map_cons, List.map_nil, List.length_cons, List.length_nil, Nat.reduceAdd, Nat.reduceSub, List.replicate_succ, List.replicate_zero, List.getElem?_cons_zero, List.getElem?_cons_succ, List.set_cons_zero, List.set_cons_succ, Option.some.injEq, exists_eq_left', exists_eq_left, exists_and_left, D.int.injEq, D.bl.injEq, D.lst.injEq, D.tup.injEq, D.str.injEq, D.exc.injEq, List.cons.injEq, and_true, true_and, List.nil_append, List.cons_append, List.append_nil, reduceCtorEq, false_and, exists_false, or_false, false_or, or_true, true_or, and_false, Int.reduceNeg, decide_eq_true_eq, Bool.not_eq_true', decide_eq_false_iff_not, and_assoc, Nat.zero_le, List.length_map, Int.zero_add, Int.reduceLT, Int.reduceLE, Int.reducePow, Int.reduceToNat, Int.reduceAdd, Int.reduceMul, Int.reduceSub, Nat.reduceLeDiff, fEq_ints, fNe_ints, fEq_lstsI, fNe_lstsI, fEq_tupsI, fNe_tupsI, noLA_ints, fSum_lst, fSum_tup, fSorted_lst, fSorted_tup, ↓reduceIte, Bool.false_eq_true, Bool.true_eq_false, false_implies, true_implies, implies_true, forall_const, Bool.not_true, Bool.not_false, s_d_l_draw, sDraw]
  have go : ∀ n : Nat, n ≤ 6 → R [some .hand, some (.int p), some (.int n), none, none, none, none, none] := fun n hn => by
    subst eR
    refine sq_cut fun R eR => ?_
    simp only [fLenSet, fMul3, dTr, tru, dAsgT, gS, dMake2, dCBK, fMinD, dCallG, fRepr, fEqS, dSq, dAsg, dNx, dExp, dRet, dRetN, dIfS, dBk, dCt, dAppend, dInsert, dRemove, dPopAt, dSetAt, dRaise, dRaise0, dRaiseL, dVar, dC, dOp, dT, dChain, dNotT, dAndT, dOrT, dAndV, dOrV, dNotV, dIf, dNeg, dNil, dCons, dCB, dTup, dLst, dCall, dCallV, dCallF, dFld, dNoPart, dPart, dSl, dIsSeq, dBM, dTM, dXf, dYes, fSub, fDiv, fMod, fPow, fAdd, fCat, fMul, fRep, fLt, fLe, fGt, fGe, fIs, fIsNot, fIx, fSl, fSlL, fLen, fList, fTuple, fMax2, fMin2, fMax, fMin, fAbs, fInt, fIsi, fIsiN, fIsiC, gN, gT, gT0, gTC, diSeq, diRng1, diRng2, diEnum, dstart, De.off, exD, suiteD, List.map_cons, List.map_nil, List.length_cons, List.length_nil, Nat.reduceAdd, Nat.reduceSub, List.replicate_succ, List.replicate_zero, List.getElem?_cons_zero, List.getElem?_cons_succ, List.set_cons_zero, List.set_cons_succ, Option.some.injEq, exists_eq_left', exists_eq_left, exists_and_left, D.int.injEq, D.bl.injEq, D.lst.injEq, D.tup.injEq, D.str.injEq, D.exc.injEq, List.cons.injEq, and_true, true_and, List.nil_append, List.cons_append, List.append_nil, reduceCtorEq, false_and, exists_false, or_false, false_or, or_true, true_or, and_false, Int.reduceNeg, decide_eq_true_eq, Bool.not_eq_true', decide_eq_false_iff_not, and_assoc, Nat.zero_le, List.length_map, Int.zero_add, Int.reduceLT, Int.reduceLE, Int.reducePow, Int.reduceToNat, Int.reduceAdd, Int.reduceMul, Int.reduceSub, Nat.reduceLeDiff, fEq_ints, fNe_ints, fEq_lstsI, fNe_lstsI, fEq_tupsI, fNe_tupsI, noLA_ints, fSum_lst, fSum_tup, fSorted_lst, fSorted_tup, ↓reduceIte, Bool.false_eq_true, Bool.true_eq_false, false_implies, true_implies, implies_true, forall_const, Bool.not_true, Bool.not_false]
    refine ⟨by decide, ?_⟩
    subst eR
    dsimp only
    refine sq_cut fun R eR => ?_
    refine for_i (rangeD 0 n) (fun k δ => ∃ v : Option D, δ = [some .hand, some (.int p), some (.int n), some (.lst ((rowsK p k).map tupI)), v, none, none, none]) (fun Q q => by simp only [fLenSet, fMul3, dTr, tru, dAsgT, gS, dMake2, dCBK, fMinD, dCallG, fRepr, fEqS, dSq, dAsg, dNx, dExp, dRet, dRetN, dIfS, dBk, dCt, dAppend, dInsert, dRemove, dPopAt, dSetAt, dRaise, dRaise0, dRaiseL, dVar, dC, dOp, dT, dChain, dNotT, dAndT, dOrT, dAndV, dOrV, dNotV, dIf, dNeg, dNil, dCons, dCB, dTup, dLst, dCall, dCallV, dCallF, dFld, dNoPart, dPart, dSl, dIsSeq, dBM, dTM, dXf, dYes, fSub, fDiv, fMod, fPow, fAdd, fCat, fMul, fRep, fLt, fLe, fGt, fGe, fIs, fIsNot, fIx, fSl, fSlL, fLen, fList, fTuple, fMax2, fMin2, fMax, fMin, fAbs, fInt, fIsi, fIsiN, fIsiC, gN, gT, gT0, gTC, diSeq, diRng1, diRng2, diEnum, dstart, De.off, exD, suiteD, List.map_cons, List.map_nil, List.length_cons, List.length_nil, Nat.reduceAdd, Nat.reduceSub, List.replicate_succ, List.replicate_zero, List.getElem?_cons_zero, List.getElem?_cons_succ, List.set_cons_zero, List.set_cons_succ, Option.some.injEq, exists_eq_left', exists_eq_left, exists_and_left, D.int.injEq, D.bl.injEq, D.lst.injEq, D.tup.injEq, D.str.injEq, D.exc.injEq, List.cons.injEq, and_true, true_and, List.nil_append, List.cons_append, List.append_nil, reduceCtorEq, false_and, exists_false, or_false, false_or, or_true, true_or, and_false, Int.reduceNeg, decide_eq_true_eq, Bool.not_eq_true', decide_eq_false_iff_not, and_assoc, Nat.zero_le, List.length_map, Int.zero_add, Int.reduceLT, Int.reduceLE, Int.reducePow, Int.reduceToNat, Int.reduceAdd, Int.reduceMul, Int.reduceSub, Nat.reduceLeDiff, fEq_ints, fNe_ints, fEq_lstsI, fNe_lstsI, fEq_tupsI, fNe_tupsI, noLA_ints, fSum_lst, fSum_tup, fSorted_lst, fSorted_tup, ↓reduceIte, Bool.false_eq_true, Bool.true_eq_false, false_implies, true_implies, implies_true, forall_const, Bool.not_true, Bool.not_false]; exact ⟨by omega, by omega, q⟩) ⟨_, rfl⟩ ?_ ?_
    · rintro k δ' x N hN ⟨v, rfl⟩ hx
      rw [rangeD_get] at hx
      split at hx <;> cases hx
      rename_i hk
      obtain ⟨_, hh⟩ := rowsK_len p0 k
      have := bnd_le (k := k) (by omega)
      simp only [fLenSet, fMul3, dTr, tru, dAsgT, gS, dMake2, dCBK, fMinD, dCallG, fRepr, fEqS, dSq, dAsg, dNx, dExp, dRet, dRetN, dIfS, dBk, dCt, dAppend, dInsert, dRemove, dPopAt, dSetAt, dRaise, dRaise0, dRaiseL, dVar, dC, dOp, dT, dChain, dNotT, dAndT, dOrT, dAndV, dOrV, dNotV, dIf, dNeg, dNil, dCons, dCB, dTup, dLst, dCall, dCallV, dCallF, dFld, dNoPart, dPart, dSl, dIsSeq, dBM, dTM, dXf, dYes, fSub, fDiv, fMod, fPow, fAdd, fCat, fMul, fRep, fLt, fLe, fGt, fGe, fIs, fIsNot, fIx, fSl, fSlL, fLen, fList, fTuple, fMax2, fMin2, fMax, fMin, fAbs, fInt, fIsi, fIsiN, fIsiC, gN, gT, gT0, gTC, diSeq, diRng1, diRng2, diEnum, dstart, De.off, exD, suiteD, List.map_cons, List.map_nil, List.length_cons, List.length_nil, Nat.reduceAdd, Nat.reduceSub, List.replicate_succ, List.replicate_zero, List.getElem?_cons_zero, List.getElem?_cons_succ, List.set_cons_zero, List.set_cons_succ, Option.some.injEq, exists_eq_left', exists_eq_left, exists_and_left, D.int.injEq, D.bl.injEq, D.lst.injEq, D.tup.injEq, D.str.injEq, D.exc.injEq, List.cons.injEq, and_true, true_and, List.nil_append, List.cons_append, List.append_nil, reduceCtorEq, false_and, exists_false, or_false, false_or, or_true, true_or, and_false, Int.reduceNeg, decide_eq_true_eq, Bool.not_eq_true', decide_eq_false_iff_not, and_assoc, Nat.zero_le, List.length_map, Int.zero_add, Int.reduceLT, Int.reduceLE, Int.reducePow, Int.reduceToNat, Int.reduceAdd, Int.reduceMul, Int.reduceSub, Nat.reduceLeDiff, fEq_ints, fNe_ints, fEq_lstsI, fNe_lstsI, fEq_tupsI, fNe_tupsI, noLA_ints, fSum_lst, fSum_tup, fSorted_lst, fSorted_tup, ↓reduceIte, Bool.false_eq_true, Bool.true_eq_false, false_implies, true_implies, implies_true, forall_const, Bool.not_true, Bool.not_false, s_d_l_grown]
      refine ⟨_, rfl, p0, p1, by omega, fun r hr => ?_, hN _ ⟨_, rfl⟩⟩
      obtain ⟨g1, g2⟩ := mem_rowsK.mp hr
      have a := row_gr p0 g1
      have b := gr_two p0 r.length
      have c := nxt_le p0 g1.pos
      have e : (2 : Int) ^ r.length ≤ 64 := by
        have : ∀ j : Nat, j ≤ 6 → (2 : Int) ^ j ≤ 64 := by decide
        exact this _ (by omega)
      exact ⟨g1, by omega, by omega⟩
    · rintro δ' ⟨v, rfl⟩
      rw [rangeD_length]
      have hrl := (rowsK_len p0 n).1
      have hb6 := bnd_le6 hn
      subst eR
      dsimp only
      refine sq_cut fun R eR => ?_
      refine for_i [.int 1, .int 2, .int 3, .int 4, .int 5, .int 12] (fun k δ => ∃ v1 v2 v3 v4 : Option D, δ = [some .hand, some (.int p), some (.int n), some (.lst ((rowsK p n).map tupI)), v1, v2, v3, v4]) (fun Q q => by simp only [fLenSet, fMul3, dTr, tru, dAsgT, gS, dMake2, dCBK, fMinD, dCallG, fRepr, fEqS, dSq, dAsg, dNx, dExp, dRet, dRetN, dIfS, dBk, dCt, dAppend, dInsert, dRemove, dPopAt, dSetAt, dRaise, dRaise0, dRaiseL, dVar, dC, dOp, dT, dChain, dNotT, dAndT, dOrT, dAndV, dOrV, dNotV, dIf, dNeg, dNil, dCons, dCB, dTup, dLst, dCall, dCallV, dCallF, dFld, dNoPart, dPart, dSl, dIsSeq, dBM, dTM, dXf, dYes, fSub, fDiv, fMod, fPow, fAdd, fCat, fMul, fRep, fLt, fLe, fGt, fGe, fIs, fIsNot, fIx, fSl, fSlL, fLen, fList, fTuple, fMax2, fMin2, fMax, fMin, fAbs, fInt, fIsi, fIsiN, fIsiC, gN, gT, gT0, gTC, diSeq, diRng1, diRng2, diEnum, dstart, De.off, exD, suiteD, List.map_cons, List.map_nil, List.length_cons, List.length_nil, Nat.reduceAdd, Nat.reduceSub, List.replicate_succ, List.replicate_zero, List.getElem?_cons_zero, List.getElem?_cons_succ, List.set_cons_zero, List.set_cons_succ, Option.some.injEq, exists_eq_left', exists_eq_left, exists_and_left, D.int.injEq, D.bl.injEq, D.lst.injEq, D.tup.injEq, D.str.injEq, D.exc.injEq, List.cons.injEq, and_true, true_and, List.nil_append, List.cons_append, List.append_nil, reduceCtorEq, false_and, exists_false, or_false, false_or, or_true, true_or, and_false, Int.reduceNeg, decide_eq_true_eq, Bool.not_eq_true', decide_eq_false_iff_not, and_assoc, Nat.zero_le, List.length_map, Int.zero_add, Int.reduceLT, Int.reduceLE, Int.reducePow, Int.reduceToNat, Int.reduceAdd, Int.reduceMul, Int.reduceSub, Nat.reduceLeDiff, fEq_ints, fNe_ints, fEq_lstsI, fNe_lstsI, fEq_tupsI, fNe_tupsI, noLA_ints, fSum_lst, fSum_tup, fSorted_lst, fSorted_tup, ↓reduceIte, Bool.false_eq_true, Bool.true_eq_false, false_implies, true_implies, implies_true, forall_const, Bool.not_true, Bool.not_false]; exact ⟨by decide, _, rfl, q⟩) ⟨_, _, _, _, rfl⟩ ?_ ?_
      · rintro k δ' y N hN ⟨v1, v2, v3, v4, rfl⟩ hy
        obtain ⟨u, rfl, u1, u12⟩ : ∃ u : Nat, y = .int u ∧ 1 ≤ u ∧ u ≤ 12 := by
          have := List.mem_of_getElem? hy
          simp only [List.mem_cons, List.not_mem_nil, or_false] at this
          rcases this with rfl | rfl | rfl | rfl | rfl | rfl
          · exact ⟨1, rfl, by decide, by decide⟩
          · exact ⟨2, rfl, by decide, by decide⟩
          · exact ⟨3, rfl, by decide, by decide⟩
          · exact ⟨4, rfl, by decide, by decide⟩
          · exact ⟨5, rfl, by decide, by decide⟩
          · exact ⟨12, rfl, by decide, by decide⟩
        simp only [gN, gT, gT0, gTC, wipeD, D.tup.injEq, D.lst.injEq, List.length_cons, List.length_nil, Nat.reduceAdd, List.cons.injEq, exists_eq_left', exists_eq_left, exists_and_left, and_true, true_and, and_assoc, List.set_cons_zero, List.set_cons_succ, reduceCtorEq, Int.zero_add]
        refine sq_cut fun R2 eR2 => ?_
        simp only [fLenSet, fMul3, dTr, tru, dAsgT, gS, dMake2, dCBK, fMinD, dCallG, fRepr, fEqS, dSq, dAsg, dNx, dExp, dRet, dRetN, dIfS, dBk, dCt, dAppend, dInsert, dRemove, dPopAt, dSetAt, dRaise, dRaise0, dRaiseL, dVar, dC, dOp, dT, dChain, dNotT, dAndT, dOrT, dAndV, dOrV, dNotV, dIf, dNeg, dNil, dCons, dCB, dTup, dLst, dCall, dCallV, dCallF, dFld, dNoPart, dPart, dSl, dIsSeq, dBM, dTM, dXf, dYes, fSub, fDiv, fMod, fPow, fAdd, fCat, fMul, fRep, fLt, fLe, fGt, fGe, fIs, fIsNot, fIx, fSl, fSlL, fLen, fList, fTuple, fMax2, fMin2, fMax, fMin, fAbs, fInt, fIsi, fIsiN, fIsiC, gN, gT, gT0, gTC, diSeq, diRng1, diRng2, diEnum, dstart, De.off, exD, suiteD, List.map_cons, List.map_nil, List.length_cons, List.length_nil, Nat.reduceAdd, Nat.reduceSub, List.replicate_succ, List.replicate_zero, List.getElem?_cons_zero, List.getElem?_cons_succ, List.set_cons_zero, List.set_cons_succ, Option.some.injEq, exists_eq_left', exists_eq_left, exists_and_left, D.int.injEq, D.bl.injEq, D.lst.injEq, D.tup.injEq, D.str.injEq, D.exc.injEq, List.cons.injEq, and_true, true_and, List.nil_append, List.cons_append, List.append_nil, reduceCtorEq, false_and, exists_false, or_false, false_or, or_true, true_or, and_false, Int.reduceNeg, decide_eq_true_eq, Bool.not_eq_true', decide_eq_false_iff_not, and_assoc, Nat.zero_le, List.length_map, Int.zero_add, Int.reduceLT, Int.reduceLE, Int.reducePow, Int.reduceToNat, Int.reduceAdd, Int.reduceMul, Int.reduceSub, Nat.reduceLeDiff, fEq_ints, fNe_ints, fEq_lstsI, fNe_lstsI, fEq_tupsI, fNe_tupsI, noLA_ints, fSum_lst, fSum_tup, fSorted_lst, fSorted_tup, ↓reduceIte, Bool.false_eq_true, Bool.true_eq_false, false_implies, true_implies, implies_true, forall_const, Bool.not_true, Bool.not_false]
        have mem : ∀ m : Int, m ∈ ((rowsK p n).filter fun r => decide (unl r ≤ u)).map List.sum ↔ ∃ r, Row p r ∧ r.length = n ∧ unl r ≤ u ∧ r.sum = m := fun m => by
          rw [List.mem_map]
          constructor
          · rintro ⟨r, h1, h2⟩
            obtain ⟨h3, h4⟩ := List.mem_filter.mp h1
            obtain ⟨h5, h6⟩ := mem_rowsK.mp h3
            exact ⟨r, h5, h6, of_decide_eq_true h4, h2⟩
          · rintro ⟨r, h1, h2, h3, h4⟩
            exact ⟨r, List.mem_filter.mpr ⟨mem_rowsK.mpr ⟨h1, h2⟩, decide_eq_true h3⟩, h4⟩
        refine lc_i ((rowsK p n).map tupI) (fun k acc => acc = ((((rowsK p n).take k).filter fun r => decide (unl r ≤ u)).map List.sum).map D.int) (fun Q q => by simp only [fLenSet, fMul3, dTr, tru, dAsgT, gS, dMake2, dCBK, fMinD, dCallG, fRepr, fEqS, dSq, dAsg, dNx, dExp, dRet, dRetN, dIfS, dBk, dCt, dAppend, dInsert, dRemove, dPopAt, dSetAt, dRaise, dRaise0, dRaiseL, dVar, dC, dOp, dT, dChain, dNotT, dAndT, dOrT, dAndV, dOrV, dNotV, dIf, dNeg, dNil, dCons, dCB, dTup, dLst, dCall, dCallV, dCallF, dFld, dNoPart, dPart, dSl, dIsSeq, dBM, dTM, dXf, dYes, fSub, fDiv, fMod, fPow, fAdd, fCat, fMul, fRep, fLt, fLe, fGt, fGe, fIs, fIsNot, fIx, fSl, fSlL, fLen, fList, fTuple, fMax2, fMin2, fMax, fMin, fAbs, fInt, fIsi, fIsiN, fIsiC, gN, gT, gT0, gTC, diSeq, diRng1, diRng2, diEnum, dstart, De.off, exD, suiteD, List.map_cons, List.map_nil, List.length_cons, List.length_nil, Nat.reduceAdd, Nat.reduceSub, List.replicate_succ, List.replicate_zero, List.getElem?_cons_zero, List.getElem?_cons_succ, List.set_cons_zero, List.set_cons_succ, Option.some.injEq, exists_eq_left', exists_eq_left, exists_and_left, D.int.injEq, D.bl.injEq, D.lst.injEq, D.tup.injEq, D.str.injEq, D.exc.injEq, List.cons.injEq, and_true, true_and, List.nil_append, List.cons_append, List.append_nil, reduceCtorEq, false_and, exists_false, or_false, false_or, or_true, true_or, and_false, Int.reduceNeg, decide_eq_true_eq, Bool.not_eq_true', decide_eq_false_iff_not, and_assoc, Nat.zero_le, List.length_map, Int.zero_add, Int.reduceLT, Int.reduceLE, Int.reducePow, Int.reduceToNat, Int.reduceAdd, Int.reduceMul, Int.reduceSub, Nat.reduceLeDiff, fEq_ints, fNe_ints, fEq_lstsI, fNe_lstsI, fEq_tupsI, fNe_tupsI, noLA_ints, fSum_lst, fSum_tup, fSorted_lst, fSorted_tup, ↓reduceIte, Bool.false_eq_true, Bool.true_eq_false, false_implies, true_implies, implies_true, forall_const, Bool.not_true, Bool.not_false]; exact ⟨_, rfl, q⟩) rfl ?_ ?_
        · rintro i acc x M hM rfl hx
          rw [List.getElem?_map] at hx
          obtain ⟨r, hr, rfl⟩ := Option.map_eq_some_iff.mp hx
          have hi := (List.getElem?_eq_some_iff.mp hr).1
          obtain ⟨h5, h6⟩ := mem_rowsK.mp (List.mem_of_getElem? hr)
          have hf := fl_step (f := fun r => decide (unl r ≤ u)) hr
          have hlen := List.length_filter_le (fun r => decide (unl r ≤ u)) ((rowsK p n).take i)
          rw [List.length_take] at hlen
          simp only [fLenSet, fMul3, dTr, tru, dAsgT, gS, dMake2, dCBK, fMinD, dCallG, fRepr, fEqS, dSq, dAsg, dNx, dExp, dRet, dRetN, dIfS, dBk, dCt, dAppend, dInsert, dRemove, dPopAt, dSetAt, dRaise, dRaise0, dRaiseL, dVar, dC, dOp, dT, dChain, dNotT, dAndT, dOrT, dAndV, dOrV, dNotV, dIf, dNeg, dNil, dCons, dCB, dTup, dLst, dCall, dCallV, dCallF, dFld, dNoPart, dPart, dSl, dIsSeq, dBM, dTM, dXf, dYes, fSub, fDiv, fMod, fPow, fAdd, fCat, fMul, fRep, fLt, fLe, fGt, fGe, fIs, fIsNot, fIx, fSl, fSlL, fLen, fList, fTuple, fMax2, fMin2, fMax, fMin, fAbs, fInt, fIsi, fIsiN, fIsiC, gN, gT, gT0, gTC, diSeq, diRng1, diRng2, diEnum, dstart, De.off, exD, suiteD, List.map_cons, List.map_nil, List.length_cons, List.length_nil, Nat.reduceAdd, Nat.reduceSub, List.replicate_succ, List.replicate_zero, List.getElem?_cons_zero, List.getElem?_cons_succ, List.set_cons_zero, List.set_cons_succ, Option.some.injEq, exists_eq_left', exists_eq_left, exists_and_left, D.int.injEq, D.bl.injEq, D.lst.injEq, D.tup.injEq, D.str.injEq, D.exc.injEq, List.cons.injEq, and_true, true_and, List.nil_append, List.cons_append, List.append_nil, reduceCtorEq, false_and, exists_false, or_false, false_or, or_true, true_or, and_false, Int.reduceNeg, decide_eq_true_eq, Bool.not_eq_true', decide_eq_false_iff_not, and_assoc, Nat.zero_le, List.length_map, Int.zero_add, Int.reduceLT, Int.reduceLE, Int.reducePow, Int.reduceToNat, Int.reduceAdd, Int.reduceMul, Int.reduceSub, Nat.reduceLeDiff, fEq_ints, fNe_ints, fEq_lstsI, fNe_lstsI, fEq_tupsI, fNe_tupsI, noLA_ints, fSum_lst, fSum_tup, fSorted_lst, fSorted_tup, ↓reduceIte, Bool.false_eq_true, Bool.true_eq_false, false_implies, true_implies, implies_true, forall_const, Bool.not_true, Bool.not_false, wipeD]
          refine ⟨r, rfl, by omega, fun ks k1 k2 => ?_⟩
          rw [unl_of k1 k2]
          split
          · rename_i h
            rw [decide_eq_true (by omega), if_pos rfl] at hf
            exact ⟨by omega, hM _ (by rw [hf]; simp)⟩
          · rename_i h
            rw [decide_eq_false (by omega), if_neg (by decide), List.append_nil] at hf
            exact hM _ (by rw [hf])
        · rintro acc rfl
          rw [List.length_map, List.take_length]
          have one := best_one p0 n
          refine ⟨_, rfl, List.length_pos_of_mem ((mem _).mpr ⟨_, one.row, one.len, Nat.le_trans one.un u1, rfl⟩), fun m h1 h2 => ?_⟩
          obtain ⟨r, g1, g2, g3, g4⟩ := (mem m).mp h1
          subst eR2
          simp only [fLenSet, fMul3, dTr, tru, dAsgT, gS, dMake2, dCBK, fMinD, dCallG, fRepr, fEqS, dSq, dAsg, dNx, dExp, dRet, dRetN, dIfS, dBk, dCt, dAppend, dInsert, dRemove, dPopAt, dSetAt, dRaise, dRaise0, dRaiseL, dVar, dC, dOp, dT, dChain, dNotT, dAndT, dOrT, dAndV, dOrV, dNotV, dIf, dNeg, dNil, dCons, dCB, dTup, dLst, dCall, dCallV, dCallF, dFld, dNoPart, dPart, dSl, dIsSeq, dBM, dTM, dXf, dYes, fSub, fDiv, fMod, fPow, fAdd, fCat, fMul, fRep, fLt, fLe, fGt, fGe, fIs, fIsNot, fIx, fSl, fSlL, fLen, fList, fTuple, fMax2, fMin2, fMax, fMin, fAbs, fInt, fIsi, fIsiN, fIsiC, gN, gT, gT0, gTC, diSeq, diRng1, diRng2, diEnum, dstart, De.off, exD, suiteD, List.map_cons, List.map_nil, List.length_cons, List.length_nil, Nat.reduceAdd, Nat.reduceSub, List.replicate_succ, List.replicate_zero, List.getElem?_cons_zero, List.getElem?_cons_succ, List.set_cons_zero, List.set_cons_succ, Option.some.injEq, exists_eq_left', exists_eq_left, exists_and_left, D.int.injEq, D.bl.injEq, D.lst.injEq, D.tup.injEq, D.str.injEq, D.exc.injEq, List.cons.injEq, and_true, true_and, List.nil_append, List.cons_append, List.append_nil, reduceCtorEq, false_and, exists_false, or_false, false_or, or_true, true_or, and_false, Int.reduceNeg, decide_eq_true_eq, Bool.not_eq_true', decide_eq_false_iff_not, and_assoc, Nat.zero_le, List.length_map, Int.zero_add, Int.reduceLT, Int.reduceLE, Int.reducePow, Int.reduceToNat, Int.reduceAdd, Int.reduceMul, Int.reduceSub, Nat.reduceLeDiff, fEq_ints, fNe_ints, fEq_lstsI, fNe_lstsI, fEq_tupsI, fNe_tupsI, noLA_ints, fSum_lst, fSum_tup, fSorted_lst, fSorted_tup, ↓reduceIte, Bool.false_eq_true, Bool.true_eq_false, false_implies, true_implies, implies_true, forall_const, Bool.not_true, Bool.not_false]
          refine unlike_ok p0 p1 (by omega) u1 u12 fun b hb => ?_
          simp only [fLenSet, fMul3, dTr, tru, dAsgT, gS, dMake2, dCBK, fMinD, dCallG, fRepr, fEqS, dSq, dAsg, dNx, dExp, dRet, dRetN, dIfS, dBk, dCt, dAppend, dInsert, dRemove, dPopAt, dSetAt, dRaise, dRaise0, dRaiseL, dVar, dC, dOp, dT, dChain, dNotT, dAndT, dOrT, dAndV, dOrV, dNotV, dIf, dNeg, dNil, dCons, dCB, dTup, dLst, dCall, dCallV, dCallF, dFld, dNoPart, dPart, dSl, dIsSeq, dBM, dTM, dXf, dYes, fSub, fDiv, fMod, fPow, fAdd, fCat, fMul, fRep, fLt, fLe, fGt, fGe, fIs, fIsNot, fIx, fSl, fSlL, fLen, fList, fTuple, fMax2, fMin2, fMax, fMin, fAbs, fInt, fIsi, fIsiN, fIsiC, gN, gT, gT0, gTC, diSeq, diRng1, diRng2, diEnum, dstart, De.off, exD, suiteD, List.map_cons, List.map_nil, List.length_cons, List.length_nil, Nat.reduceAdd, Nat.reduceSub, List.replicate_succ, List.replicate_zero, List.getElem?_cons_zero, List.getElem?_cons_succ, List.set_cons_zero, List.set_cons_succ, Option.some.injEq, exists_eq_left', exists_eq_left, exists_and_left, D.int.injEq, D.bl.injEq, D.lst.injEq, D.tup.injEq, D.str.injEq, D.exc.injEq, List.cons.injEq, and_true, true_and, List.nil_append, List.cons_append, List.append_nil, reduceCtorEq, false_and, exists_false, or_false, false_or, or_true, true_or, and_false, Int.reduceNeg, decide_eq_true_eq, Bool.not_eq_true', decide_eq_false_iff_not, and_assoc, Nat.zero_le, List.length_map, Int.zero_add, Int.reduceLT, Int.reduceLE, Int.reducePow, Int.reduceToNat, Int.reduceAdd, Int.reduceMul, Int.reduceSub, Nat.reduceLeDiff, fEq_ints, fNe_ints, fEq_lstsI, fNe_lstsI, fEq_tupsI, fNe_tupsI, noLA_ints, fSum_lst, fSum_tup, fSorted_lst, fSorted_tup, ↓reduceIte, Bool.false_eq_true, Bool.true_eq_false, false_implies, true_implies, implies_true, forall_const, Bool.not_true, Bool.not_false, s_d_l_best]
          have e : b.sum = m := by
            have := hb.top r g1 g2 g3
            have := h2 _ ((mem _).mpr ⟨b, hb.row, hb.len, hb.un, rfl⟩)
            omega
          exact ⟨b, rfl, rfl, n, rfl, u, rfl, p0, p1, by omega, hb, by rw [if_neg (by omega)]; exact hN _ ⟨_, _, _, _, rfl⟩⟩
      · rintro δ' ⟨v1, v2, v3, v4, rfl⟩
        subst eR
        simp only [fLenSet, fMul3, dTr, tru, dAsgT, gS, dMake2, dCBK, fMinD, dCallG, fRepr, fEqS, dSq, dAsg, dNx, dExp, dRet, dRetN, dIfS, dBk, dCt, dAppend, dInsert, dRemove, dPopAt, dSetAt, dRaise, dRaise0, dRaiseL, dVar, dC, dOp, dT, dChain, dNotT, dAndT, dOrT, dAndV, dOrV, dNotV, dIf, dNeg, dNil, dCons, dCB, dTup, dLst, dCall, dCallV, dCallF, dFld, dNoPart, dPart, dSl, dIsSeq, dBM, dTM, dXf, dYes, fSub, fDiv, fMod, fPow, fAdd, fCat, fMul, fRep, fLt, fLe, fGt, fGe, fIs, fIsNot, fIx, fSl, fSlL, fLen, fList, fTuple, fMax2, fMin2, fMax, fMin, fAbs, fInt, fIsi, fIsiN, fIsiC, gN, gT, gT0, gTC, diSeq, diRng1, diRng2, diEnum, dstart, De.off, exD, suiteD, List.map_cons, List.map_nil, List.length_cons, List.length_nil, Nat.reduceAdd, Nat.reduceSub, List.replicate_succ, List.replicate_zero, List.getElem?_cons_zero, List.getElem?_cons_succ, List.set_cons_zero, List.set_cons_succ, Option.some.injEq, exists_eq_left', exists_eq_left, exists_and_left, D.int.injEq, D.bl.injEq, D.lst.injEq, D.tup.injEq, D.str.injEq, D.exc.injEq, List.cons.injEq, and_true, true_and, List.nil_append, List.cons_append, List.append_nil, reduceCtorEq, false_and, exists_false, or_false, false_or, or_true, true_or, and_false, Int.reduceNeg, decide_eq_true_eq, Bool.not_eq_true', decide_eq_false_iff_not, and_assoc, Nat.zero_le, List.length_map, Int.zero_add, Int.reduceLT, Int.reduceLE, Int.reducePow, Int.reduceToNat, Int.reduceAdd, Int.reduceMul, Int.reduceSub, Nat.reduceLeDiff, fEq_ints, fNe_ints, fEq_lstsI, fNe_lstsI, fEq_tupsI, fNe_tupsI, noLA_ints, fSum_lst, fSum_tup, fSorted_lst, fSorted_tup, ↓reduceIte, Bool.false_eq_true, Bool.true_eq_false, false_implies, true_implies, implies_true, forall_const, Bool.not_true, Bool.not_false]
        exact q
  have go2 : ∀ d : Int, 0 ≤ d → d < 7 → R [some .hand, some (.int p), some (.int d), none, none, none, none, none] := fun d d0 d1 => by
    obtain ⟨n, rfl⟩ := Int.eq_ofNat_of_zero_le d0
    exact go n (by omega)
  split
  · exact fun d d0 d1 => go2 d d0 (by omega)
  · exact fun d d0 d1 => go2 d d0 d1

end
end My
set_option Elab.async false
set_option linter.all false
set_option maxRecDepth 100000
set_option maxHeartbeats 4000000
namespace My
open PySem PySem.Spec PyProof.Rows L2 Gen DL
section
variable {P : Program} {w : World} {K : PySem.W.Frag} {mg : Str → Option Value} {base : Heap} { cBadPeople cBadCount cBadTotal cBadCoin cBadUnlike : Addr}
def s_d_l_great_right : SpD := fun ds P _ => ∃ p : Int, ds = [.hand, .int p] ∧ 2 ≤ p ∧ p ≤ 5 ∧ P (.bl true)
theorem len_d_l_great_right : ∀ ds P er, s_d_l_great_right ds P er → ds.length = 2 := by rintro _ _ _ ⟨_, rfl, _⟩; rfl
theorem n0_l_great_right : ∀ ds P er, s_d_l_great_right ds P er → s_d_l_great_right ds P noX := fun _ _ _ h => h
theorem ok_l_great_right {f : Addr} {fd : FuncData} (F : Fun K "_law_great_right" "_law_great_right" s_l_great_right f fd) (T : Txt K mg cBadPeople cBadCount cBadTotal cBadCoin cBadUnlike) : FnOk P w K mg base CX0 5 f fd ps_l_great_right (spOf (s_d_l_great_right)) := by
  obtain ⟨f_l_draw, fd_l_draw, F_l_draw, m_l_draw, b_l_draw⟩ := T.d_l_draw
  have G_l_draw : FnOk P w K mg base CX0 2 f_l_draw fd_l_draw ps_l_draw (spOf (s_d_l_draw)) := ok_l_draw F_l_draw T
  obtain ⟨f_l_best, fd_l_best, F_l_best, m_l_best, b_l_best⟩ := T.d_l_best
  have G_l_best : FnOk P w K mg base CX0 3 f_l_best fd_l_best ps_l_best (spOf (s_d_l_best)) := ok_l_best F_l_best T
  obtain ⟨f_greatest_unlike, fd_greatest_unlike, F_greatest_unlike, m_greatest_unlike, b_greatest_unlike⟩ := T.d_greatest_unlike
  have G_greatest_unlike : FnOk P w K mg base (L2.CX P w) 4 f_greatest_unlike fd_greatest_unlike ps_greatest_unlike (spOf (s_d_greatest_unlike cBadUnlike cBadCount cBadPeople)) := ok_greatest_unlike F_greatest_unlike T
  obtain ⟨f_l_great, fd_l_great, F_l_great, m_l_great, b_l_great⟩ := T.d_l_great
  have G_l_great : FnOk P w K mg base CX0 2 f_l_great fd_l_great ps_l_great (spOf (s_d_l_great)) := ok_l_great F_l_great T
  obtain ⟨f_l_next, fd_l_next, F_l_next, m_l_next, b_l_next⟩ := T.d_l_next
  have G_l_next : FnOk P w K mg base CX0 1 f_l_next fd_l_next ps_l_next (spOf (s_d_l_next)) := ok_l_next F_l_next T
  refine fn0_d (k := 4) (Oe := []) F sc_l_great_right [] _ (len_d_l_great_right) (by decide) (fun cdv A outer sh H E hr => (s_cons (s_set (i := 2) (by decide) sc_l_great_right.nd rfl (Or.inl rfl) (d_call (by decide) G_l_draw (hr.mono (by decide)) (by rfl) m_l_draw F_l_draw.kp b_l_draw .nil (fun _ _ _ => .nil) pass0A (a_cons (d_var (i := 0) (by decide) (pv 0)) (a_cons (d_c (y := .int 13) (fun _ _ _ => .int _) pe_int) a_nil))))
      (s_cons (s_set (i := 3) (by decide) sc_l_great_right.nd rfl (Or.inl rfl) (d_op op_add4 l_add (toV (d_c (y := .int 1) (fun _ _ _ => .int _) pe_int)) (toV (d_call (by decide) G_l_draw (hr.mono (by decide)) (by rfl) m_l_draw F_l_draw.kp b_l_draw .nil (fun _ _ _ => .nil) pass0A (a_cons (d_var (i := 0) (by decide) (pv 0)) (a_cons (d_c (y := .int 12) (fun _ _ _ => .int _) pe_int) a_nil))))))
      (s_cons (s_set (i := 4) (by decide) sc_l_great_right.nd rfl (Or.inl rfl) (d_call (by decide) G_l_best (hr.mono (by decide)) (by rfl) m_l_best F_l_best.kp b_l_best .nil (fun _ _ _ => .nil) pass0A (a_cons (d_call (by decide) G_greatest_unlike (hr.mono (by decide)) (by rfl) m_greatest_unlike F_greatest_unlike.kp b_greatest_unlike .nil (fun _ _ _ => .nil) (fun σ => L2.passAt takes0 σ) (a_cons (d_var (i := 2) (by decide) (pv 2)) (a_cons (d_var (i := 3) (by decide) (pv 3)) (a_cons (d_var (i := 1) (by decide) (pv 1)) a_nil)))) (a_cons (d_var (i := 2) (by decide) (pv 2)) (a_cons (d_var (i := 3) (by decide) (pv 3)) (a_cons (d_var (i := 1) (by decide) (pv 1)) a_nil))))))
      (s_cons (s_if (d_tcmp op_lt l_lt (toV (d_var (i := 4) (by decide) (pv 4))) (toV (d_c (y := .int 0) (fun _ _ _ => .int _) pe_int)) (nomark _)) (s_one (s_ret (O2 := []) (fun _ z => nomatch z) (d_c (y := .bl false) (fun _ _ _ => .bl _) pe_bl)) (fun _ z => z)) (s_nil (fun _ z => z)))
      (s_cons (s_for (vs := [5]) PassesOwn.never rfl (by decide) (pi_range1 (by rfl) T.n_range (pa_cons (d_c (y := .int 4) (fun _ _ _ => .int _) pe_int) pa_nil)) (li_rng1 (own := false)) (pg_name (i := 5) sc_l_great_right.nd rfl (Or.inl rfl)) (lg_name (i := 5) (by decide) (by decide))
      (s_cons (s_set (i := 6) (by decide) sc_l_great_right.nd rfl (Or.inl rfl) (d_c (y := .int 0) (fun _ _ _ => .int _) pe_int))
      (s_cons (s_set (i := 7) (by decide) sc_l_great_right.nd rfl (Or.inl rfl) (d_var (i := 2) (by decide) (pv 2)))
      (s_cons (s_for (vs := [8]) PassesOwn.never rfl (by decide) (pi_range1 (by rfl) T.n_range (pa_cons (d_var (i := 3) (by decide) (pv 3)) pa_nil)) (li_rng1 (own := false)) (pg_name (i := 8) sc_l_great_right.nd rfl (Or.inl rfl)) (lg_name (i := 8) (by decide) (by decide))
      (s_cons (s_set (i := 9) (by decide) sc_l_great_right.nd rfl (Or.inl rfl) (d_if (d_tcmp (op_eqD hr.units) l_eq (toV (d_var (i := 8) (by decide) (pv 8))) (toV (d_op op_sub l_sub (toV (d_var (i := 3) (by decide) (pv 3))) (toV (d_c (y := .int 1) (fun _ _ _ => .int _) pe_int)))) (nomark _)) (d_var (i := 7) (by decide) (pv 7)) (d_call (by decide) G_l_draw (hr.mono (by decide)) (by rfl) m_l_draw F_l_draw.kp b_l_draw .nil (fun _ _ _ => .nil) pass0A (a_cons (d_var (i := 0) (by decide) (pv 0)) (a_cons (d_op op_add4 l_add (toV (d_var (i := 7) (by decide) (pv 7))) (toV (d_c (y := .int 1) (fun _ _ _ => .int _) pe_int))) a_nil)))))
      (s_cons (s_set (i := 6) (by decide) sc_l_great_right.nd rfl (Or.inl rfl) (d_op op_add4 l_add (toV (d_var (i := 6) (by decide) (pv 6))) (toV (d_op op_mul2 l_mul (toV (d_var (i := 9) (by decide) (pv 9))) (toV (d_call (by decide) G_l_next (hr.mono (by decide)) (by rfl) m_l_next F_l_next.kp b_l_next .nil (fun _ _ _ => .nil) pass0A (a_cons (d_var (i := 6) (by decide) (pv 6)) (a_cons (d_var (i := 1) (by decide) (pv 1)) a_nil))))))))
      (s_one (s_set (i := 7) (by decide) sc_l_great_right.nd rfl (Or.inl rfl) (d_op op_sub l_sub (toV (d_var (i := 7) (by decide) (pv 7))) (toV (d_var (i := 9) (by decide) (pv 9))))) (fun _ z => z)))))
      (s_one (s_if (d_tcmp op_gt l_gt (toV (d_var (i := 6) (by decide) (pv 6))) (toV (d_var (i := 4) (by decide) (pv 4))) (nomark _)) (s_one (s_ret (O2 := []) (fun _ z => nomatch z) (d_c (y := .bl false) (fun _ _ _ => .bl _) pe_bl)) (fun _ z => z)) (s_nil (fun _ z => z))) (fun _ z => z))))))
      (s_one (s_ret (O2 := []) (fun _ z => nomatch z) (d_cmp (op_eqD hr.units) l_eq (toV (d_call (by decide) G_l_best (hr.mono (by decide)) (by rfl) m_l_best F_l_best.kp b_l_best .nil (fun _ _ _ => .nil) pass0A (a_cons (d_call (by decide) G_greatest_unlike (hr.mono (by decide)) (by rfl) m_greatest_unlike F_greatest_unlike.kp b_greatest_unlike .nil (fun _ _ _ => .nil) (fun σ => L2.passAt takes0 σ) (a_cons (d_var (i := 2) (by decide) (pv 2)) (a_cons (d_c (y := .int 12) (fun _ _ _ => .int _) pe_int) (a_cons (d_var (i := 1) (by decide) (pv 1)) a_nil)))) (a_cons (d_var (i := 2) (by decide) (pv 2)) (a_cons (d_c (y := .int 12) (fun _ _ _ => .int _) pe_int) (a_cons (d_var (i := 1) (by decide) (pv 1)) a_nil)))))) (toV (d_call (by decide) G_l_great (hr.mono (by decide)) (by rfl) m_l_great F_l_great.kp b_l_great .nil (fun _ _ _ => .nil) pass0A (a_cons (d_var (i := 2) (by decide) (pv 2)) (a_cons (d_var (i := 1) (by decide) (pv 1)) a_nil)))) (nomark _))) (by decide)))))))) ?_ n0_l_great_right
  rintro ds P ⟨p, rfl, p0, p1, q⟩
  refine sq_cut fun R eR => ?_
  simp only [fLenSet, fMul3, dTr, tru, dAsgT, gS, dMake2, dCBK, fMinD, dCallG, fRepr, fEqS, dSq, dAsg, dNx, dExp, dRet, dRetN, dIfS, dBk, dCt, dAppend, dInsert, dRemove, dPopAt, dSetAt, dRaise, dRaise0, dRaiseL, dVar, dC, dOp, dT, dChain, dNotT, dAndT, dOrT, dAndV, dOrV, dNotV, dIf, dNeg, dNil, dCons, dCB, dTup, dLst, dCall, dCallV, dCallF, dFld, dNoPart, dPart, dSl, dIsSeq, dBM, dTM, dXf, dYes, fSub, fDiv, fMod, fPow, fAdd, fCat, fMul, fRep, fLt, fLe, fGt, fGe, fIs, fIsNot, fIx, fSl, fSlL, fLen, fList, fTuple, fMax2, fMin2, fMax, fMin, fAbs, fInt, fIsi, fIsiN, fIsiC, gN, gT, gT0, gTC, diSeq, diRng1, diRng2, diEnum, dstart, De.off, exD, suiteD, List.map_cons, List.map_nil, List.length_cons, List.length_nil, Nat.reduceAdd, Nat.reduceSub, List.replicate_succ, List.replicate_zero, List.getElem?_cons_zero, List.getElem?_cons_succ, List.set_cons_zero, List.set_cons_succ, Option.some.injEq, exists_eq_left', exists_eq_left, exists_and_left, D.int.injEq, D.bl.injEq, D.lst.injEq, D.tup.injEq, D.str.injEq, D.exc.injEq, List.cons.injEq, and_true, true_and, List.nil_append, List.cons_append, List.append_nil, reduceCtorEq, false_and, exists_false, or_false, false_or, or_true, true_or, and_false, Int.reduceNeg, decide_eq_true_eq, Bool.not_eq_true', decide_eq_false_iff_not, and_assoc, Nat.zero_le, List.length_map, Int.zero_add, Int.reduceLT, Int.reduceLE, Int.reducePow, Int.reduceToNat, Int.reduceAdd, Int.reduceMul, Int.reduceSub, Nat.reduceLeDiff, fEq_ints, fNe_ints, fEq_lstsI, fNe_lstsI, fEq_tupsI, fNe_tupsI, noLA_ints, fSum_lst, fSum_tup, fSorted_lst, fSorted_tup, ↓reduceIte, Bool.false_eq_true, Bool.true_eq_false, false_implies, true_implies, implies_true, forall_const, Bool.not_true, Bool.not_false, s_d_l_draw, sDraw]
  intro n0 n00 n13
  obtain ⟨n, rfl⟩ := Int.eq_ofNat_of_zero_le n00
  subst eR
  refine sq_cut fun R eR => ?_
  simp only [fLenSet, fMul3, dTr, tru, dAsgT, gS, dMake2, dCBK, fMinD, dCallG, fRepr, fEqS, dSq, dAsg, dNx, dExp, dRet, dRetN, dIfS, dBk, dCt, dAppend, dInsert, dRemove, dPopAt, dSetAt, dRaise, dRaise0, dRaiseL, dVar, dC, dOp, dT, dChain, dNotT, dAndT, dOrT, dAndV, dOrV, dNotV, dIf, dNeg, dNil, dCons, dCB, dTup, dLst, dCall, dCallV, dCallF, dFld, dNoPart, dPart, dSl, dIsSeq, dBM, dTM, dXf, dYes, fSub, fDiv, fMod, fPow, fAdd, fCat, fMul, fRep, fLt, fLe, fGt, fGe, fIs, fIsNot, fIx, fSl, fSlL, fLen, fList, fTuple, fMax2, fMin2, fMax, fMin, fAbs, fInt, fIsi, fIsiN, fIsiC, gN, gT, gT0, gTC, diSeq, diRng1, diRng2, diEnum, dstart, De.off, exD, suiteD, List.map_cons, List.map_nil, List.length_cons, List.length_nil, Nat.reduceAdd, Nat.reduceSub, List.replicate_succ, List.replicate_zero, List.getElem?_cons_zero, List.getElem?_cons_succ, List.set_cons_zero, List.set_cons_succ, Option.some.injEq, exists_eq_left', exists_eq_left, exists_and_left, D.int.injEq, D.bl.injEq, D.lst.injEq, D.tup.injEq, D.str.injEq, D.exc.injEq, List.cons.injEq, and_true, true_and, List.nil_append, List.cons_append, List.append_nil, reduceCtorEq, false_and, exists_false, or_false, false_or, or_true, true_or, and_false, Int.reduceNeg, decide_eq_true_eq, Bool.not_eq_true', decide_eq_false_iff_not, and_assoc, Nat.zero_le, List.length_map, Int.zero_add, Int.reduceLT, Int.reduceLE, Int.reducePow, Int.reduceToNat, Int.reduceAdd, Int.reduceMul, Int.reduceSub, Nat.reduceLeDiff, fEq_ints, fNe_ints, fEq_lstsI, fNe_lstsI, fEq_tupsI, fNe_tupsI, noLA_ints, fSum_lst, fSum_tup, fSorted_lst, fSorted_tup, ↓reduceIte, Bool.false_eq_true, Bool.true_eq_false, false_implies, true_implies, implies_true, forall_const, Bool.not_true, Bool.not_false, s_d_l_draw, sDraw]
  intro u0 u00 u12
  obtain ⟨u, hu⟩ : ∃ u : Nat, 1 + u0 = (u : Int) := ⟨(1 + u0).toNat, by omega⟩
  rw [hu]
  subst eR
  refine sq_cut fun R eR => ?_
  simp only [fLenSet, fMul3, dTr, tru, dAsgT, gS, dMake2, dCBK, fMinD, dCallG, fRepr, fEqS, dSq, dAsg, dNx, dExp, dRet, dRetN, dIfS, dBk, dCt, dAppend, dInsert, dRemove, dPopAt, dSetAt, dRaise, dRaise0, dRaiseL, dVar, dC, dOp, dT, dChain, dNotT, dAndT, dOrT, dAndV, dOrV, dNotV, dIf, dNeg, dNil, dCons, dCB, dTup, dLst, dCall, dCallV, dCallF, dFld, dNoPart, dPart, dSl, dIsSeq, dBM, dTM, dXf, dYes, fSub, fDiv, fMod, fPow, fAdd, fCat, fMul, fRep, fLt, fLe, fGt, fGe, fIs, fIsNot, fIx, fSl, fSlL, fLen, fList, fTuple, fMax2, fMin2, fMax, fMin, fAbs, fInt, fIsi, fIsiN, fIsiC, gN, gT, gT0, gTC, diSeq, diRng1, diRng2, diEnum, dstart, De.off, exD, suiteD, List.map_cons, List.map_nil, List.length_cons, List.length_nil, Nat.reduceAdd, Nat.reduceSub, List.replicate_succ, List.replicate_zero, List.getElem?_cons_zero, List.getElem?_cons_succ, List.set_cons_zero, List.set_cons_succ, Option.some.injEq, exists_eq_left', exists_eq_left, exists_and_left, D.int.injEq, D.bl.injEq, D.lst.injEq, D.tup.injEq, D.str.injEq, D.exc.injEq, List.cons.injEq, and_true, true_and, List.nil_append, List.cons_append, List.append_nil, reduceCtorEq, false_and, exists_false, or_false, false_or, or_true, true_or, and_false, Int.reduceNeg, decide_eq_true_eq, Bool.not_eq_true', decide_eq_false_iff_not, and_assoc, Nat.zero_le, List.length_map, Int.zero_add, Int.reduceLT, Int.reduceLE, Int.reducePow, Int.reduceToNat, Int.reduceAdd, Int.reduceMul, Int.reduceSub, Nat.reduceLeDiff, fEq_ints, fNe_ints, fEq_lstsI, fNe_lstsI, fEq_tupsI, fNe_tupsI, noLA_ints, fSum_lst, fSum_tup, fSorted_lst, fSorted_tup, ↓reduceIte, Bool.false_eq_true, Bool.true_eq_false, false_implies, true_implies, implies_true, forall_const, Bool.not_true, Bool.not_false]
  refine unlike_ok p0 p1 (by omega) (by omega) (by omega) fun b hb => ?_
  simp only [fLenSet, fMul3, dTr, tru, dAsgT, gS, dMake2, dCBK, fMinD, dCallG, fRepr, fEqS, dSq, dAsg, dNx, dExp, dRet, dRetN, dIfS, dBk, dCt, dAppend, dInsert, dRemove, dPopAt, dSetAt, dRaise, dRaise0, dRaiseL, dVar, dC, dOp, dT, dChain, dNotT, dAndT, dOrT, dAndV, dOrV, dNotV, dIf, dNeg, dNil, dCons, dCB, dTup, dLst, dCall, dCallV, dCallF, dFld, dNoPart, dPart, dSl, dIsSeq, dBM, dTM, dXf, dYes, fSub, fDiv, fMod, fPow, fAdd, fCat, fMul, fRep, fLt, fLe, fGt, fGe, fIs, fIsNot, fIx, fSl, fSlL, fLen, fList, fTuple, fMax2, fMin2, fMax, fMin, fAbs, fInt, fIsi, fIsiN, fIsiC, gN, gT, gT0, gTC, diSeq, diRng1, diRng2, diEnum, dstart, De.off, exD, suiteD, List.map_cons, List.map_nil, List.length_cons, List.length_nil, Nat.reduceAdd, Nat.reduceSub, List.replicate_succ, List.replicate_zero, List.getElem?_cons_zero, List.getElem?_cons_succ, List.set_cons_zero, List.set_cons_succ, Option.some.injEq, exists_eq_left', exists_eq_left, exists_and_left, D.int.injEq, D.bl.injEq, D.lst.injEq, D.tup.injEq, D.str.injEq, D.exc.injEq, List.cons.injEq, and_true, true_and, List.nil_append, List.cons_append, List.append_nil, reduceCtorEq, false_and, exists_false, or_false, false_or, or_true, true_or, and_false, Int.reduceNeg, decide_eq_true_eq, Bool.not_eq_true', decide_eq_false_iff_not, and_assoc, Nat.zero_le, List.length_map, Int.zero_add, Int.reduceLT, Int.reduceLE, Int.reducePow, Int.reduceToNat, Int.reduceAdd, Int.reduceMul, Int.reduceSub, Nat.reduceLeDiff, fEq_ints, fNe_ints, fEq_lstsI, fNe_lstsI, fEq_tupsI, fNe_tupsI, noLA_ints, fSum_lst, fSum_tup, fSorted_lst, fSorted_tup, ↓reduceIte, Bool.false_eq_true, Bool.true_eq_false, false_implies, true_implies, implies_true, forall_const, Bool.not_true, Bool.not_false, s_d_l_best]
  refine ⟨b, rfl, rfl, n, rfl, u, rfl, p0, p1, by omega, hb, ?_⟩
  have b0 := hb.row.pos
  subst eR
  refine sq_cut fun R eR => ?_
  simp only [fLenSet, fMul3, dTr, tru, dAsgT, gS, dMake2, dCBK, fMinD, dCallG, fRepr, fEqS, dSq, dAsg, dNx, dExp, dRet, dRetN, dIfS, dBk, dCt, dAppend, dInsert, dRemove, dPopAt, dSetAt, dRaise, dRaise0, dRaiseL, dVar, dC, dOp, dT, dChain, dNotT, dAndT, dOrT, dAndV, dOrV, dNotV, dIf, dNeg, dNil, dCons, dCB, dTup, dLst, dCall, dCallV, dCallF, dFld, dNoPart, dPart, dSl, dIsSeq, dBM, dTM, dXf, dYes, fSub, fDiv, fMod, fPow, fAdd, fCat, fMul, fRep, fLt, fLe, fGt, fGe, fIs, fIsNot, fIx, fSl, fSlL, fLen, fList, fTuple, fMax2, fMin2, fMax, fMin, fAbs, fInt, fIsi, fIsiN, fIsiC, gN, gT, gT0, gTC, diSeq, diRng1, diRng2, diEnum, dstart, De.off, exD, suiteD, List.map_cons, List.map_nil, List.length_cons, List.length_nil, Nat.reduceAdd, Nat.reduceSub, List.replicate_succ, List.replicate_zero, List.getElem?_cons_zero, List.getElem?_cons_succ, List.set_cons_zero, List.set_cons_succ, Option.some.injEq, exists_eq_left', exists_eq_left, exists_and_left, D.int.injEq, D.bl.injEq, D.lst.injEq, D.tup.injEq, D.str.injEq, D.exc.injEq, List.cons.injEq, and_true, true_and, List.nil_append, List.cons_append, List.append_nil, reduceCtorEq, false_and, exists_false, or_false, false_or, or_true, true_or, and_false, Int.reduceNeg, decide_eq_true_eq, Bool.not_eq_true', decide_eq_false_iff_not, and_assoc, Nat.zero_le, List.length_map, Int.zero_add, Int.reduceLT, Int.reduceLE, Int.reducePow, Int.reduceToNat, Int.reduceAdd, Int.reduceMul, Int.reduceSub, Nat.reduceLeDiff, fEq_ints, fNe_ints, fEq_lstsI, fNe_lstsI, fEq_tupsI, fNe_tupsI, noLA_ints, fSum_lst, fSum_tup, fSorted_lst, fSorted_tup, ↓reduceIte, Bool.false_eq_true, Bool.true_eq_false, false_implies, true_implies, implies_true, forall_const, Bool.not_true, Bool.not_false]
  rw [if_neg (by omega)]
  subst eR
  refine sq_cut fun R eR => ?_
  refine for_i (rangeD 0 4) (fun k δ => ∃ v5 v6 v7 v8 v9 : Option D, δ = [some .hand, some (.int p), some (.int n), some (.int u), some (.int b.sum), v5, v6, v7, v8, v9]) (fun Q q => by simp only [fLenSet, fMul3, dTr, tru, dAsgT, gS, dMake2, dCBK, fMinD, dCallG, fRepr, fEqS, dSq, dAsg, dNx, dExp, dRet, dRetN, dIfS, dBk, dCt, dAppend, dInsert, dRemove, dPopAt, dSetAt, dRaise, dRaise0, dRaiseL, dVar, dC, dOp, dT, dChain, dNotT, dAndT, dOrT, dAndV, dOrV, dNotV, dIf, dNeg, dNil, dCons, dCB, dTup, dLst, dCall, dCallV, dCallF, dFld, dNoPart, dPart, dSl, dIsSeq, dBM, dTM, dXf, dYes, fSub, fDiv, fMod, fPow, fAdd, fCat, fMul, fRep, fLt, fLe, fGt, fGe, fIs, fIsNot, fIx, fSl, fSlL, fLen, fList, fTuple, fMax2, fMin2, fMax, fMin, fAbs, fInt, fIsi, fIsiN, fIsiC, gN, gT, gT0, gTC, diSeq, diRng1, diRng2, diEnum, dstart, De.off, exD, suiteD, List.map_cons, List.map_nil, List.length_cons, List.length_nil, Nat.reduceAdd, Nat.reduceSub, List.replicate_succ, List.replicate_zero, List.getElem?_cons_zero, List.getElem?_cons_succ, List.set_cons_zero, List.set_cons_succ, Option.some.injEq, exists_eq_left', exists_eq_left, exists_and_left, D.int.injEq, D.bl.injEq, D.lst.injEq, D.tup.injEq, D.str.injEq, D.exc.injEq, List.cons.injEq, and_true, true_and, List.nil_append, List.cons_append, List.append_nil, reduceCtorEq, false_and, exists_false, or_false, false_or, or_true, true_or, and_false, Int.reduceNeg, decide_eq_true_eq, Bool.not_eq_true', decide_eq_false_iff_not, and_assoc, Nat.zero_le, List.length_map, Int.zero_add, Int.reduceLT, Int.reduceLE, Int.reducePow, Int.reduceToNat, Int.reduceAdd, Int.reduceMul, Int.reduceSub, Nat.reduceLeDiff, fEq_ints, fNe_ints, fEq_lstsI, fNe_lstsI, fEq_tupsI, fNe_tupsI, noLA_ints, fSum_lst, fSum_tup, fSorted_lst, fSorted_tup, ↓reduceIte, Bool.false_eq_true, Bool.true_eq_false, false_implies, true_implies, implies_true, forall_const, Bool.not_true, Bool.not_false]; exact q) ⟨_, _, _, _, _, rfl⟩ ?_ ?_
  · rintro k δ' y N hN ⟨v5, v6, v7, v8, v9, rfl⟩ hy
    rw [rangeD_get] at hy
    split at hy <;> cases hy
    simp only [gN, gT, gT0, gTC, wipeD, D.tup.injEq, D.lst.injEq, List.length_cons, List.length_nil, Nat.reduceAdd, List.cons.injEq, exists_eq_left', exists_eq_left, exists_and_left, and_true, true_and, and_assoc, List.set_cons_zero, List.set_cons_succ, reduceCtorEq, Int.zero_add]
    refine sq_cut fun R2 eR2 => ?_
    simp only [fLenSet, fMul3, dTr, tru, dAsgT, gS, dMake2, dCBK, fMinD, dCallG, fRepr, fEqS, dSq, dAsg, dNx, dExp, dRet, dRetN, dIfS, dBk, dCt, dAppend, dInsert, dRemove, dPopAt, dSetAt, dRaise, dRaise0, dRaiseL, dVar, dC, dOp, dT, dChain, dNotT, dAndT, dOrT, dAndV, dOrV, dNotV, dIf, dNeg, dNil, dCons, dCB, dTup, dLst, dCall, dCallV, dCallF, dFld, dNoPart, dPart, dSl, dIsSeq, dBM, dTM, dXf, dYes, fSub, fDiv, fMod, fPow, fAdd, fCat, fMul, fRep, fLt, fLe, fGt, fGe, fIs, fIsNot, fIx, fSl, fSlL, fLen, fList, fTuple, fMax2, fMin2, fMax, fMin, fAbs, fInt, fIsi, fIsiN, fIsiC, gN, gT, gT0, gTC, diSeq, diRng1, diRng2, diEnum, dstart, De.off, exD, suiteD, List.map_cons, List.map_nil, List.length_cons, List.length_nil, Nat.reduceAdd, Nat.reduceSub, List.replicate_succ, List.replicate_zero, List.getElem?_cons_zero, List.getElem?_cons_succ, List.set_cons_zero, List.set_cons_succ, Option.some.injEq, exists_eq_left', exists_eq_left, exists_and_left, D.int.injEq, D.bl.injEq, D.lst.injEq, D.tup.injEq, D.str.injEq, D.exc.injEq, List.cons.injEq, and_true, true_and, List.nil_append, List.cons_append, List.append_nil, reduceCtorEq, false_and, exists_false, or_false, false_or, or_true, true_or, and_false, Int.reduceNeg, decide_eq_true_eq, Bool.not_eq_true', decide_eq_false_iff_not, and_assoc, Nat.zero_le, List.length_map, Int.zero_add, Int.reduceLT, Int.reduceLE, Int.reducePow, Int.reduceToNat, Int.reduceAdd, Int.reduceMul, Int.reduceSub, Nat.reduceLeDiff, fEq_ints, fNe_ints, fEq_lstsI, fNe_lstsI, fEq_tupsI, fNe_tupsI, noLA_ints, fSum_lst, fSum_tup, fSorted_lst, fSorted_tup, ↓reduceIte, Bool.false_eq_true, Bool.true_eq_false, false_implies, true_implies, implies_true, forall_const, Bool.not_true, Bool.not_false]
    subst eR2
    refine sq_cut fun R2 eR2 => ?_
    simp only [fLenSet, fMul3, dTr, tru, dAsgT, gS, dMake2, dCBK, fMinD, dCallG, fRepr, fEqS, dSq, dAsg, dNx, dExp, dRet, dRetN, dIfS, dBk, dCt, dAppend, dInsert, dRemove, dPopAt, dSetAt, dRaise, dRaise0, dRaiseL, dVar, dC, dOp, dT, dChain, dNotT, dAndT, dOrT, dAndV, dOrV, dNotV, dIf, dNeg, dNil, dCons, dCB, dTup, dLst, dCall, dCallV, dCallF, dFld, dNoPart, dPart, dSl, dIsSeq, dBM, dTM, dXf, dYes, fSub, fDiv, fMod, fPow, fAdd, fCat, fMul, fRep, fLt, fLe, fGt, fGe, fIs, fIsNot, fIx, fSl, fSlL, fLen, fList, fTuple, fMax2, fMin2, fMax, fMin, fAbs, fInt, fIsi, fIsiN, fIsiC, gN, gT, gT0, gTC, diSeq, diRng1, diRng2, diEnum, dstart, De.off, exD, suiteD, List.map_cons, List.map_nil, List.length_cons, List.length_nil, Nat.reduceAdd, Nat.reduceSub, List.replicate_succ, List.replicate_zero, List.getElem?_cons_zero, List.getElem?_cons_succ, List.set_cons_zero, List.set_cons_succ, Option.some.injEq, exists_eq_left', exists_eq_left, exists_and_left, D.int.injEq, D.bl.injEq, D.lst.injEq, D.tup.injEq, D.str.injEq, D.exc.injEq, List.cons.injEq, and_true, true_and, List.nil_append, List.cons_append, List.append_nil, reduceCtorEq, false_and, exists_false, or_false, false_or, or_true, true_or, and_false, Int.reduceNeg, decide_eq_true_eq, Bool.not_eq_true', decide_eq_false_iff_not, and_assoc, Nat.zero_le, List.length_map, Int.zero_add, Int.reduceLT, Int.reduceLE, Int.reducePow, Int.reduceToNat, Int.reduceAdd, Int.reduceMul, Int.reduceSub, Nat.reduceLeDiff, fEq_ints, fNe_ints, fEq_lstsI, fNe_lstsI, fEq_tupsI, fNe_tupsI, noLA_ints, fSum_lst, fSum_tup, fSorted_lst, fSorted_tup, ↓reduceIte, Bool.false_eq_true, Bool.true_eq_false, false_implies, true_implies, implies_true, forall_const, Bool.not_true, Bool.not_false]
    subst eR2
    refine sq_cut fun R2 eR2 => ?_
    refine for_i (rangeD 0 u) (fun j δ => ∃ (r : List Int) (left : Nat) (v8 v9 : Option D), δ = [some .hand, some (.int p), some (.int n), some (.int u), some (.int b.sum), some (.int k), some (.int r.sum), some (.int left), v8, v9] ∧ Row p r ∧ r.length + left = n ∧ unl r ≤ j ∧ (j = u → left = 0)) (fun Q q => by simp only [fLenSet, fMul3, dTr, tru, dAsgT, gS, dMake2, dCBK, fMinD, dCallG, fRepr, fEqS, dSq, dAsg, dNx, dExp, dRet, dRetN, dIfS, dBk, dCt, dAppend, dInsert, dRemove, dPopAt, dSetAt, dRaise, dRaise0, dRaiseL, dVar, dC, dOp, dT, dChain, dNotT, dAndT, dOrT, dAndV, dOrV, dNotV, dIf, dNeg, dNil, dCons, dCB, dTup, dLst, dCall, dCallV, dCallF, dFld, dNoPart, dPart, dSl, dIsSeq, dBM, dTM, dXf, dYes, fSub, fDiv, fMod, fPow, fAdd, fCat, fMul, fRep, fLt, fLe, fGt, fGe, fIs, fIsNot, fIx, fSl, fSlL, fLen, fList, fTuple, fMax2, fMin2, fMax, fMin, fAbs, fInt, fIsi, fIsiN, fIsiC, gN, gT, gT0, gTC, diSeq, diRng1, diRng2, diEnum, dstart, De.off, exD, suiteD, List.map_cons, List.map_nil, List.length_cons, List.length_nil, Nat.reduceAdd, Nat.reduceSub, List.replicate_succ, List.replicate_zero, List.getElem?_cons_zero, List.getElem?_cons_succ, List.set_cons_zero, List.set_cons_succ, Option.some.injEq, exists_eq_left', exists_eq_left, exists_and_left, D.int.injEq, D.bl.injEq, D.lst.injEq, D.tup.injEq, D.str.injEq, D.exc.injEq, List.cons.injEq, and_true, true_and, List.nil_append, List.cons_append, List.append_nil, reduceCtorEq, false_and, exists_false, or_false, false_or, or_true, true_or, and_false, Int.reduceNeg, decide_eq_true_eq, Bool.not_eq_true', decide_eq_false_iff_not, and_assoc, Nat.zero_le, List.length_map, Int.zero_add, Int.reduceLT, Int.reduceLE, Int.reducePow, Int.reduceToNat, Int.reduceAdd, Int.reduceMul, Int.reduceSub, Nat.reduceLeDiff, fEq_ints, fNe_ints, fEq_lstsI, fNe_lstsI, fEq_tupsI, fNe_tupsI, noLA_ints, fSum_lst, fSum_tup, fSorted_lst, fSorted_tup, ↓reduceIte, Bool.false_eq_true, Bool.true_eq_false, false_implies, true_implies, implies_true, forall_const, Bool.not_true, Bool.not_false]; exact ⟨by omega, by omega, q⟩) ⟨[], n, _, _, rfl, trivial, by simp, Nat.le_refl _, fun e => by omega⟩ ?_ ?_
    · rintro j δ' y M hM ⟨r, left, v8, v9, rfl, hr, hl, hun, hz⟩ hy
      rw [rangeD_get] at hy
      split at hy <;> cases hy
      rename_i hj
      have step : ∀ m : Nat, m ≤ left → (j + 1 = u → m = left) → ∀ v9 : Option D, M [some .hand, some (.int p), some (.int n), some (.int u), some (.int b.sum), some (.int k), some (.int (r.sum + m * nxt p r.sum)), some (.int ((left : Int) - m)), some (.int j), v9] := fun m hm hmu v9 => by
        refine hM _ ⟨r ++ List.replicate m (nxt p r.sum), left - m, some (.int j), v9, ?_, Row.reps p0 hr (hr.last p0).1 (Int.le_refl _) m, by rw [List.length_append, List.length_replicate]; omega, ?_, fun e => ?_⟩
        · rw [List.sum_append, sum_rep, Int.mul_comm, show ((left - m : Nat) : Int) = (left : Int) - m by omega]
        · have := unl_reps r (nxt p r.sum) m
          omega
        · have := hmu e; omega
      simp only [gN, gT, gT0, gTC, wipeD, D.tup.injEq, D.lst.injEq, List.length_cons, List.length_nil, Nat.reduceAdd, List.cons.injEq, exists_eq_left', exists_eq_left, exists_and_left, and_true, true_and, and_assoc, List.set_cons_zero, List.set_cons_succ, reduceCtorEq, Int.zero_add]
      refine sq_cut fun R3 eR3 => ?_
      simp only [fLenSet, fMul3, dTr, tru, dAsgT, gS, dMake2, dCBK, fMinD, dCallG, fRepr, fEqS, dSq, dAsg, dNx, dExp, dRet, dRetN, dIfS, dBk, dCt, dAppend, dInsert, dRemove, dPopAt, dSetAt, dRaise, dRaise0, dRaiseL, dVar, dC, dOp, dT, dChain, dNotT, dAndT, dOrT, dAndV, dOrV, dNotV, dIf, dNeg, dNil, dCons, dCB, dTup, dLst, dCall, dCallV, dCallF, dFld, dNoPart, dPart, dSl, dIsSeq, dBM, dTM, dXf, dYes, fSub, fDiv, fMod, fPow, fAdd, fCat, fMul, fRep, fLt, fLe, fGt, fGe, fIs, fIsNot, fIx, fSl, fSlL, fLen, fList, fTuple, fMax2, fMin2, fMax, fMin, fAbs, fInt, fIsi, fIsiN, fIsiC, gN, gT, gT0, gTC, diSeq, diRng1, diRng2, diEnum, dstart, De.off, exD, suiteD, List.map_cons, List.map_nil, List.length_cons, List.length_nil, Nat.reduceAdd, Nat.reduceSub, List.replicate_succ, List.replicate_zero, List.getElem?_cons_zero, List.getElem?_cons_succ, List.set_cons_zero, List.set_cons_succ, Option.some.injEq, exists_eq_left', exists_eq_left, exists_and_left, D.int.injEq, D.bl.injEq, D.lst.injEq, D.tup.injEq, D.str.injEq, D.exc.injEq, List.cons.injEq, and_true, true_and, List.nil_append, List.cons_append, List.append_nil, reduceCtorEq, false_and, exists_false, or_false, false_or, or_true, true_or, and_false, Int.reduceNeg, decide_eq_true_eq, Bool.not_eq_true', decide_eq_false_iff_not, and_assoc, Nat.zero_le, List.length_map, Int.zero_add, Int.reduceLT, Int.reduceLE, Int.reducePow, Int.reduceToNat, Int.reduceAdd, Int.reduceMul, Int.reduceSub, Nat.reduceLeDiff, fEq_ints, fNe_ints, fEq_lstsI, fNe_lstsI, fEq_tupsI, fNe_tupsI, noLA_ints, fSum_lst, fSum_tup, fSorted_lst, fSorted_tup, ↓reduceIte, Bool.false_eq_true, Bool.true_eq_false, false_implies, true_implies, implies_true, forall_const, Bool.not_true, Bool.not_false, s_d_l_draw, sDraw]
      have go : ∀ m : Nat, m ≤ left → (j + 1 = u → m = left) → R3 [some .hand, some (.int p), some (.int n), some (.int u), some (.int b.sum), some (.int k), some (.int r.sum), some (.int left), some (.int j), some (.int m)] := fun m hm hmu => by
        subst eR3
        simp only [fLenSet, fMul3, dTr, tru, dAsgT, gS, dMake2, dCBK, fMinD, dCallG, fRepr, fEqS, dSq, dAsg, dNx, dExp, dRet, dRetN, dIfS, dBk, dCt, dAppend, dInsert, dRemove, dPopAt, dSetAt, dRaise, dRaise0, dRaiseL, dVar, dC, dOp, dT, dChain, dNotT, dAndT, dOrT, dAndV, dOrV, dNotV, dIf, dNeg, dNil, dCons, dCB, dTup, dLst, dCall, dCallV, dCallF, dFld, dNoPart, dPart, dSl, dIsSeq, dBM, dTM, dXf, dYes, fSub, fDiv, fMod, fPow, fAdd, fCat, fMul, fRep, fLt, fLe, fGt, fGe, fIs, fIsNot, fIx, fSl, fSlL, fLen, fList, fTuple, fMax2, fMin2, fMax, fMin, fAbs, fInt, fIsi, fIsiN, fIsiC, gN, gT, gT0, gTC, diSeq, diRng1, diRng2, diEnum, dstart, De.off, exD, suiteD, List.map_cons, List.map_nil, List.length_cons, List.length_nil, Nat.reduceAdd, Nat.reduceSub, List.replicate_succ, List.replicate_zero, List.getElem?_cons_zero, List.getElem?_cons_succ, List.set_cons_zero, List.set_cons_succ, Option.some.injEq, exists_eq_left', exists_eq_left, exists_and_left, D.int.injEq, D.bl.injEq, D.lst.injEq, D.tup.injEq, D.str.injEq, D.exc.injEq, List.cons.injEq, and_true, true_and, List.nil_append, List.cons_append, List.append_nil, reduceCtorEq, false_and, exists_false, or_false, false_or, or_true, true_or, and_false, Int.reduceNeg, decide_eq_true_eq, Bool.not_eq_true', decide_eq_false_iff_not, and_assoc, Nat.zero_le, List.length_map, Int.zero_add, Int.reduceLT, Int.reduceLE, Int.reducePow, Int.reduceToNat, Int.reduceAdd, Int.reduceMul, Int.reduceSub, Nat.reduceLeDiff, fEq_ints, fNe_ints, fEq_lstsI, fNe_lstsI, fEq_tupsI, fNe_tupsI, noLA_ints, fSum_lst, fSum_tup, fSorted_lst, fSorted_tup, ↓reduceIte, Bool.false_eq_true, Bool.true_eq_false, false_implies, true_implies, implies_true, forall_const, Bool.not_true, Bool.not_false, s_d_l_next]
        exact ⟨p0, by omega, .inl ⟨by omega, by omega⟩, step m hm hmu _⟩
      split
      · exact go left (Nat.le_refl _) fun _ => rfl
      · refine ⟨by omega, by omega, fun d d0 d1 => ?_⟩
        obtain ⟨m, rfl⟩ := Int.eq_ofNat_of_zero_le d0
        exact go m (by omega) fun e => by omega
    · rintro δ' ⟨r, left, v8, v9, rfl, hr, hl, hun, hz⟩
      rw [rangeD_length] at hun hz
      have := hz rfl
      have := hb.top r hr (by omega) hun
      subst eR2
      simp only [fLenSet, fMul3, dTr, tru, dAsgT, gS, dMake2, dCBK, fMinD, dCallG, fRepr, fEqS, dSq, dAsg, dNx, dExp, dRet, dRetN, dIfS, dBk, dCt, dAppend, dInsert, dRemove, dPopAt, dSetAt, dRaise, dRaise0, dRaiseL, dVar, dC, dOp, dT, dChain, dNotT, dAndT, dOrT, dAndV, dOrV, dNotV, dIf, dNeg, dNil, dCons, dCB, dTup, dLst, dCall, dCallV, dCallF, dFld, dNoPart, dPart, dSl, dIsSeq, dBM, dTM, dXf, dYes, fSub, fDiv, fMod, fPow, fAdd, fCat, fMul, fRep, fLt, fLe, fGt, fGe, fIs, fIsNot, fIx, fSl, fSlL, fLen, fList, fTuple, fMax2, fMin2, fMax, fMin, fAbs, fInt, fIsi, fIsiN, fIsiC, gN, gT, gT0, gTC, diSeq, diRng1, diRng2, diEnum, dstart, De.off, exD, suiteD, List.map_cons, List.map_nil, List.length_cons, List.length_nil, Nat.reduceAdd, Nat.reduceSub, List.replicate_succ, List.replicate_zero, List.getElem?_cons_zero, List.getElem?_cons_succ, List.set_cons_zero, List.set_cons_succ, Option.some.injEq, exists_eq_left', exists_eq_left, exists_and_left, D.int.injEq, D.bl.injEq, D.lst.injEq, D.tup.injEq, D.str.injEq, D.exc.injEq, List.cons.injEq, and_true, true_and, List.nil_append, List.cons_append, List.append_nil, reduceCtorEq, false_and, exists_false, or_false, false_or, or_true, true_or, and_false, Int.reduceNeg, decide_eq_true_eq, Bool.not_eq_true', decide_eq_false_iff_not, and_assoc, Nat.zero_le, List.length_map, Int.zero_add, Int.reduceLT, Int.reduceLE, Int.reducePow, Int.reduceToNat, Int.reduceAdd, Int.reduceMul, Int.reduceSub, Nat.reduceLeDiff, fEq_ints, fNe_ints, fEq_lstsI, fNe_lstsI, fEq_tupsI, fNe_tupsI, noLA_ints, fSum_lst, fSum_tup, fSorted_lst, fSorted_tup, ↓reduceIte, Bool.false_eq_true, Bool.true_eq_false, false_implies, true_implies, implies_true, forall_const, Bool.not_true, Bool.not_false]
      rw [if_neg (by omega)]
      exact hN _ ⟨_, _, _, _, _, rfl⟩
  · rintro δ' ⟨v5, v6, v7, v8, v9, rfl⟩
    subst eR
    simp only [fLenSet, fMul3, dTr, tru, dAsgT, gS, dMake2, dCBK, fMinD, dCallG, fRepr, fEqS, dSq, dAsg, dNx, dExp, dRet, dRetN, dIfS, dBk, dCt, dAppend, dInsert, dRemove, dPopAt, dSetAt, dRaise, dRaise0, dRaiseL, dVar, dC, dOp, dT, dChain, dNotT, dAndT, dOrT, dAndV, dOrV, dNotV, dIf, dNeg, dNil, dCons, dCB, dTup, dLst, dCall, dCallV, dCallF, dFld, dNoPart, dPart, dSl, dIsSeq, dBM, dTM, dXf, dYes, fSub, fDiv, fMod, fPow, fAdd, fCat, fMul, fRep, fLt, fLe, fGt, fGe, fIs, fIsNot, fIx, fSl, fSlL, fLen, fList, fTuple, fMax2, fMin2, fMax, fMin, fAbs, fInt, fIsi, fIsiN, fIsiC, gN, gT, gT0, gTC, diSeq, diRng1, diRng2, diEnum, dstart, De.off, exD, suiteD, List.map_cons, List.map_nil, List.length_cons, List.length_nil, Nat.reduceAdd, Nat.reduceSub, List.replicate_succ, List.replicate_zero, List.getElem?_cons_zero, List.getElem?_cons_succ, List.set_cons_zero, List.set_cons_succ, Option.some.injEq, exists_eq_left', exists_eq_left, exists_and_left, D.int.injEq, D.bl.injEq, D.lst.injEq, D.tup.injEq, D.str.injEq, D.exc.injEq, List.cons.injEq, and_true, true_and, List.nil_append, List.cons_append, List.append_nil, reduceCtorEq, false_and, exists_false, or_false, false_or, or_true, true_or, and_false, Int.reduceNeg, decide_eq_true_eq, Bool.not_eq_true', decide_eq_false_iff_not, and_assoc, Nat.zero_le, List.length_map, Int.zero_add, Int.reduceLT, Int.reduceLE, Int.reducePow, Int.reduceToNat, Int.reduceAdd, Int.reduceMul, Int.reduceSub, Nat.reduceLeDiff, fEq_ints, fNe_ints, fEq_lstsI, fNe_lstsI, fEq_tupsI, fNe_tupsI, noLA_ints, fSum_lst, fSum_tup, fSorted_lst, fSorted_tup, ↓reduceIte, Bool.false_eq_true, Bool.true_eq_false, false_implies, true_implies, implies_true, forall_const, Bool.not_true, Bool.not_false]
    refine unlike_ok (u := 12) p0 p1 (by omega) (by omega) (by omega) fun c hc => ?_
    simp only [fLenSet, fMul3, dTr, tru, dAsgT, gS, dMake2, dCBK, fMinD, dCallG, fRepr, fEqS, dSq, dAsg, dNx, dExp, dRet, dRetN, dIfS, dBk, dCt, dAppend, dInsert, dRemove, dPopAt, dSetAt, dRaise, dRaise0, dRaiseL, dVar, dC, dOp, dT, dChain, dNotT, dAndT, dOrT, dAndV, dOrV, dNotV, dIf, dNeg, dNil, dCons, dCB, dTup, dLst, dCall, dCallV, dCallF, dFld, dNoPart, dPart, dSl, dIsSeq, dBM, dTM, dXf, dYes, fSub, fDiv, fMod, fPow, fAdd, fCat, fMul, fRep, fLt, fLe, fGt, fGe, fIs, fIsNot, fIx, fSl, fSlL, fLen, fList, fTuple, fMax2, fMin2, fMax, fMin, fAbs, fInt, fIsi, fIsiN, fIsiC, gN, gT, gT0, gTC, diSeq, diRng1, diRng2, diEnum, dstart, De.off, exD, suiteD, List.map_cons, List.map_nil, List.length_cons, List.length_nil, Nat.reduceAdd, Nat.reduceSub, List.replicate_succ, List.replicate_zero, List.getElem?_cons_zero, List.getElem?_cons_succ, List.set_cons_zero, List.set_cons_succ, Option.some.injEq, exists_eq_left', exists_eq_left, exists_and_left, D.int.injEq, D.bl.injEq, D.lst.injEq, D.tup.injEq, D.str.injEq, D.exc.injEq, List.cons.injEq, and_true, true_and, List.nil_append, List.cons_append, List.append_nil, reduceCtorEq, false_and, exists_false, or_false, false_or, or_true, true_or, and_false, Int.reduceNeg, decide_eq_true_eq, Bool.not_eq_true', decide_eq_false_iff_not, and_assoc, Nat.zero_le, List.length_map, Int.zero_add, Int.reduceLT, Int.reduceLE, Int.reducePow, Int.reduceToNat, Int.reduceAdd, Int.reduceMul, Int.reduceSub, Nat.reduceLeDiff, fEq_ints, fNe_ints, fEq_lstsI, fNe_lstsI, fEq_tupsI, fNe_tupsI, noLA_ints, fSum_lst, fSum_tup, fSorted_lst, fSorted_tup, ↓reduceIte, Bool.false_eq_true, Bool.true_eq_false, false_implies, true_implies, implies_true, forall_const, Bool.not_true, Bool.not_false, s_d_l_best, s_d_l_great]
    refine ⟨c, rfl, rfl, n, rfl, 12, rfl, p0, p1, by omega, hc, n, rfl, by omega, p0, p1, ?_⟩
    obtain ⟨g, g1, g2, g3⟩ := gr_row p0 n
    have a := hc.top g g1 g2 (Nat.le_trans (unl_len g) (by omega))
    have d := row_gr p0 hc.row
    rw [hc.len] at d
    rw [decide_eq_true (by omega)]
    exact q
theorem far_gr {p : Int} (p0 : 2 ≤ p) (p1 : p ≤ 5) : 4000000000 ≤ gr p 399 := by
  obtain rfl | rfl | rfl | rfl : p = 2 ∨ p = 3 ∨ p = 4 ∨ p = 5 := by omega
  · decide +kernel
  · decide +kernel
  · decide +kernel
  · decide +kernel
/-- that the fewest coins exist -/
theorem few_is {p t : Int} (hp : 2 ≤ p) : ∀ m : Nat, t ≤ gr p m → ∃ k, IsFew p t k
  | 0, h => ⟨0, h, fun j z => absurd z (Nat.not_lt_zero j)⟩
  | m + 1, h => by
    by_cases e : t ≤ gr p m
    · exact few_is hp m e
    · exact ⟨m + 1, h, fun j hj => by have := gr_mono hp (show j ≤ m by omega); omega⟩
theorem whole_no {y : D} {lo hi : Int} {c : Prop} (m : Int) (h : whole y lo hi = false) (e : y = .int m) (h1 : lo ≤ m) (h2 : m ≤ hi) : c := by
  subst e
  simp [whole] at h
  omega
theorem coin_ok {p t : Int} {Q : D → Prop} (p0 : 2 ≤ p) (p1 : p ≤ 5) (t0 : 0 ≤ t) (t1 : t ≤ 1000000000) (q : Q (.int (upI t p))) {cT cP : Addr} : s_d_greatest_coin cT cP [.int t, .int p] Q noX := by
  refine ⟨_, _, rfl, rfl, rfl, fun h => whole_no t h rfl t0 t1, fun t2 e _ _ => ⟨fun h => whole_no p h rfl p0 p1, fun p2 e2 _ _ => ?_⟩⟩
  cases e
  cases e2
  exact q
theorem least_ok {p c : Int} {Q : D → Prop} (p0 : 2 ≤ p) (p1 : p ≤ 5) (c0 : 1 ≤ c) (c1 : c ≤ 1000000000) (q : Q (.int (p * (c - 1) + 1))) {cC cP : Addr} : s_d_least_total_with cC cP [.int c, .int p] Q noX := by
  refine ⟨_, _, rfl, rfl, rfl, fun h => whole_no c h rfl c0 c1, fun t2 e _ _ => ⟨fun h => whole_no p h rfl p0 p1, fun p2 e2 _ _ => ?_⟩⟩
  cases e
  cases e2
  exact q
theorem fewest_ok {p c : Int} {Q : D → Prop} (p0 : 2 ≤ p) (p1 : p ≤ 5) (c0 : 1 ≤ c) (c1 : c ≤ 1000000000) (q : ∀ k : Nat, IsFew p ((p - 1) * (c - 1)) k → Q (.int (k + 1))) {cC cP : Addr} : s_d_fewest_with cC cP [.int c, .int p] Q noX := by
  refine ⟨_, _, rfl, rfl, rfl, fun h => whole_no c h rfl c0 c1, fun t2 e _ _ => ⟨fun h => whole_no p h rfl p0 p1, fun p2 e2 _ _ k hk => ?_⟩⟩
  cases e
  cases e2
  exact q k hk
def s_d_l_far_right : SpD := fun ds P _ => ∃ p : Int, ds = [.hand, .int p] ∧ 2 ≤ p ∧ p ≤ 5 ∧ P (.bl true)
theorem len_d_l_far_right : ∀ ds P er, s_d_l_far_right ds P er → ds.length = 2 := by rintro _ _ _ ⟨_, rfl, _⟩; rfl
theorem n0_l_far_right : ∀ ds P er, s_d_l_far_right ds P er → s_d_l_far_right ds P noX := fun _ _ _ h => h
theorem ok_l_far_right {f : Addr} {fd : FuncData} (F : Fun K "_law_far_right" "_law_far_right" s_l_far_right f fd) (T : Txt K mg cBadPeople cBadCount cBadTotal cBadCoin cBadUnlike) : FnOk P w K mg base CX0 5 f fd ps_l_far_right (spOf (s_d_l_far_right)) := by
  obtain ⟨f_l_draw, fd_l_draw, F_l_draw, m_l_draw, b_l_draw⟩ := T.d_l_draw
  have G_l_draw : FnOk P w K mg base CX0 2 f_l_draw fd_l_draw ps_l_draw (spOf (s_d_l_draw)) := ok_l_draw F_l_draw T
  obtain ⟨f_greatest_coin, fd_greatest_coin, F_greatest_coin, m_greatest_coin, b_greatest_coin⟩ := T.d_greatest_coin
  have G_greatest_coin : FnOk P w K mg base (L2.CX P w) 4 f_greatest_coin fd_greatest_coin ps_greatest_coin (spOf (s_d_greatest_coin cBadTotal cBadPeople)) := ok_greatest_coin F_greatest_coin T
  obtain ⟨f_least_total_with, fd_least_total_with, F_least_total_with, m_least_total_with, b_least_total_with⟩ := T.d_least_total_with
  have G_least_total_with : FnOk P w K mg base (L2.CX P w) 4 f_least_total_with fd_least_total_with ps_least_total_with (spOf (s_d_least_total_with cBadCoin cBadPeople)) := ok_least_total_with F_least_total_with T
  obtain ⟨f_fewest_with, fd_fewest_with, F_fewest_with, m_fewest_with, b_fewest_with⟩ := T.d_fewest_with
  have G_fewest_with : FnOk P w K mg base (L2.CX P w) 4 f_fewest_with fd_fewest_with ps_fewest_with (spOf (s_d_fewest_with cBadCoin cBadPeople)) := ok_fewest_with F_fewest_with T
  obtain ⟨f_l_is_whole, fd_l_is_whole, F_l_is_whole, m_l_is_whole, b_l_is_whole⟩ := T.d_l_is_whole
  have G_l_is_whole : FnOk P w K mg base CX0 1 f_l_is_whole fd_l_is_whole ps_l_is_whole (spOf (s_d_l_is_whole)) := ok_l_is_whole F_l_is_whole T
  obtain ⟨f_l_up, fd_l_up, F_l_up, m_l_up, b_l_up⟩ := T.d_l_up
  have G_l_up : FnOk P w K mg base CX0 1 f_l_up fd_l_up ps_l_up (spOf (s_d_l_up)) := ok_l_up F_l_up T
  obtain ⟨f_l_fewest, fd_l_fewest, F_l_fewest, m_l_fewest, b_l_fewest⟩ := T.d_l_fewest
  have G_l_fewest : FnOk P w K mg base CX0 2 f_l_fewest fd_l_fewest ps_l_fewest (spOf (s_d_l_fewest)) := ok_l_fewest F_l_fewest T
  refine fn0_d (k := 4) (Oe := []) F sc_l_far_right [] _ (len_d_l_far_right) (by decide) (fun cdv A outer sh H E hr => (s_cons (s_for (vs := [2]) PassesOwn.never rfl (by decide) (pi_seq (ofF (f_lst (a_cons (d_call (by decide) G_l_draw (hr.mono (by decide)) (by rfl) m_l_draw F_l_draw.kp b_l_draw .nil (fun _ _ _ => .nil) pass0A (a_cons (d_var (i := 0) (by decide) (pv 0)) (a_cons (d_op op_add4 l_add (toV (d_op op_pow l_pow (toV (d_c (y := .int 10) (fun _ _ _ => .int _) pe_int)) (toV (d_c (y := .int 9) (fun _ _ _ => .int _) pe_int)))) (toV (d_c (y := .int 1) (fun _ _ _ => .int _) pe_int))) a_nil))) (a_cons (d_call (by decide) G_l_draw (hr.mono (by decide)) (by rfl) m_l_draw F_l_draw.kp b_l_draw .nil (fun _ _ _ => .nil) pass0A (a_cons (d_var (i := 0) (by decide) (pv 0)) (a_cons (d_c (y := .int 300) (fun _ _ _ => .int _) pe_int) a_nil))) (a_cons (d_op op_pow l_pow (toV (d_c (y := .int 10) (fun _ _ _ => .int _) pe_int)) (toV (d_c (y := .int 9) (fun _ _ _ => .int _) pe_int))) (a_cons (d_c (y := .int 0) (fun _ _ _ => .int _) pe_int) a_nil))))))) (li_seq (own := false)) (pg_name (i := 2) sc_l_far_right.nd rfl (Or.inl rfl)) (lg_name (i := 2) (by decide) (by decide))
      (s_cons (s_set (i := 3) (by decide) sc_l_far_right.nd rfl (Or.inl rfl) (d_call (by decide) G_greatest_coin (hr.mono (by decide)) (by rfl) m_greatest_coin F_greatest_coin.kp b_greatest_coin .nil (fun _ _ _ => .nil) (fun σ => L2.passAt takes0 σ) (a_cons (d_var (i := 2) (by decide) (pv 2)) (a_cons (d_var (i := 1) (by decide) (pv 1)) a_nil))))
      (s_one (s_if (PW.pt (d_or (d_not (d_test (d_call (by decide) G_l_is_whole (hr.mono (by decide)) (by rfl) m_l_is_whole F_l_is_whole.kp b_l_is_whole .nil (fun _ _ _ => .nil) pass0A (a_cons (d_var (i := 3) (by decide) (pv 3)) a_nil)))) (d_or1 (d_tcmp (op_neD hr.units) l_ne (toV (d_var (i := 3) (by decide) (pv 3))) (toV (d_call (by decide) G_l_up (hr.mono (by decide)) (by rfl) m_l_up F_l_up.kp b_l_up .nil (fun _ _ _ => .nil) pass0A (a_cons (d_var (i := 2) (by decide) (pv 2)) (a_cons (d_var (i := 1) (by decide) (pv 1)) a_nil)))) (nomark _))))) (s_one (s_ret (O2 := []) (fun _ z => nomatch z) (d_c (y := .bl false) (fun _ _ _ => .bl _) pe_bl)) (fun _ z => z)) (s_nil (fun _ z => z))) (fun _ z => z))))
      (s_cons (s_for (vs := [3]) PassesOwn.never rfl (by decide) (pi_seq (ofF (f_lst (a_cons (d_op op_add4 l_add (toV (d_c (y := .int 1) (fun _ _ _ => .int _) pe_int)) (toV (d_call (by decide) G_l_draw (hr.mono (by decide)) (by rfl) m_l_draw F_l_draw.kp b_l_draw .nil (fun _ _ _ => .nil) pass0A (a_cons (d_var (i := 0) (by decide) (pv 0)) (a_cons (d_op op_pow l_pow (toV (d_c (y := .int 10) (fun _ _ _ => .int _) pe_int)) (toV (d_c (y := .int 9) (fun _ _ _ => .int _) pe_int))) a_nil))))) (a_cons (d_op op_add4 l_add (toV (d_c (y := .int 1) (fun _ _ _ => .int _) pe_int)) (toV (d_call (by decide) G_l_draw (hr.mono (by decide)) (by rfl) m_l_draw F_l_draw.kp b_l_draw .nil (fun _ _ _ => .nil) pass0A (a_cons (d_var (i := 0) (by decide) (pv 0)) (a_cons (d_c (y := .int 300) (fun _ _ _ => .int _) pe_int) a_nil))))) (a_cons (d_op op_pow l_pow (toV (d_c (y := .int 10) (fun _ _ _ => .int _) pe_int)) (toV (d_c (y := .int 9) (fun _ _ _ => .int _) pe_int))) (a_cons (d_c (y := .int 1) (fun _ _ _ => .int _) pe_int) a_nil))))))) (li_seq (own := false)) (pg_name (i := 3) sc_l_far_right.nd rfl (Or.inl rfl)) (lg_name (i := 3) (by decide) (by decide))
      (s_cons (s_set (i := 2) (by decide) sc_l_far_right.nd rfl (Or.inl rfl) (d_call (by decide) G_least_total_with (hr.mono (by decide)) (by rfl) m_least_total_with F_least_total_with.kp b_least_total_with .nil (fun _ _ _ => .nil) (fun σ => L2.passAt takes0 σ) (a_cons (d_var (i := 3) (by decide) (pv 3)) (a_cons (d_var (i := 1) (by decide) (pv 1)) a_nil))))
      (s_cons (s_set (i := 4) (by decide) sc_l_far_right.nd rfl (Or.inl rfl) (d_call (by decide) G_fewest_with (hr.mono (by decide)) (by rfl) m_fewest_with F_fewest_with.kp b_fewest_with .nil (fun _ _ _ => .nil) (fun σ => L2.passAt takes0 σ) (a_cons (d_var (i := 3) (by decide) (pv 3)) (a_cons (d_var (i := 1) (by decide) (pv 1)) a_nil))))
      (s_cons (s_set (i := 5) (by decide) sc_l_far_right.nd rfl (Or.inl rfl) (d_op op_mul2 l_mul (toV (d_op op_sub l_sub (toV (d_var (i := 1) (by decide) (pv 1))) (toV (d_c (y := .int 1) (fun _ _ _ => .int _) pe_int)))) (toV (d_op op_sub l_sub (toV (d_var (i := 3) (by decide) (pv 3))) (toV (d_c (y := .int 1) (fun _ _ _ => .int _) pe_int))))))
      (s_cons (s_if (PW.pt (d_or (d_not (d_test (d_call (by decide) G_l_is_whole (hr.mono (by decide)) (by rfl) m_l_is_whole F_l_is_whole.kp b_l_is_whole .nil (fun _ _ _ => .nil) pass0A (a_cons (d_var (i := 2) (by decide) (pv 2)) a_nil)))) (d_or1 (d_tcmp (op_neD hr.units) l_ne (toV (d_var (i := 2) (by decide) (pv 2))) (toV (d_op op_add4 l_add (toV (d_var (i := 5) (by decide) (pv 5))) (toV (d_var (i := 3) (by decide) (pv 3))))) (nomark _))))) (s_one (s_ret (O2 := []) (fun _ z => nomatch z) (d_c (y := .bl false) (fun _ _ _ => .bl _) pe_bl)) (fun _ z => z)) (s_nil (fun _ z => z)))
      (s_one (s_if (PW.pt (d_or (d_not (d_test (d_call (by decide) G_l_is_whole (hr.mono (by decide)) (by rfl) m_l_is_whole F_l_is_whole.kp b_l_is_whole .nil (fun _ _ _ => .nil) pass0A (a_cons (d_var (i := 4) (by decide) (pv 4)) a_nil)))) (d_or1 (d_tcmp (op_neD hr.units) l_ne (toV (d_var (i := 4) (by decide) (pv 4))) (toV (d_op op_add4 l_add (toV (d_c (y := .int 1) (fun _ _ _ => .int _) pe_int)) (toV (d_call (by decide) G_l_fewest (hr.mono (by decide)) (by rfl) m_l_fewest F_l_fewest.kp b_l_fewest .nil (fun _ _ _ => .nil) pass0A (a_cons (d_var (i := 5) (by decide) (pv 5)) (a_cons (d_var (i := 1) (by decide) (pv 1)) a_nil)))))) (nomark _))))) (s_one (s_ret (O2 := []) (fun _ z => nomatch z) (d_c (y := .bl false) (fun _ _ _ => .bl _) pe_bl)) (fun _ z => z)) (s_nil (fun _ z => z))) (fun _ z => z)))))))
      (s_one (s_ret (O2 := []) (fun _ z => nomatch z) (d_c (y := .bl true) (fun _ _ _ => .bl _) pe_bl)) (by decide))))) ?_ n0_l_far_right
  rintro ds P ⟨p, rfl, p0, p1, q⟩
  refine sq_cut fun R eR => ?_
  refine for_open ?_
  simp only [fLenSet, fMul3, dTr, tru, dAsgT, gS, dMake2, dCBK, fMinD, dCallG, fRepr, fEqS, dSq, dAsg, dNx, dExp, dRet, dRetN, dIfS, dBk, dCt, dAppend, dInsert, dRemove, dPopAt, dSetAt, dRaise, dRaise0, dRaiseL, dVar, dC, dOp, dT, dChain, dNotT, dAndT, dOrT, dAndV, dOrV, dNotV, dIf, dNeg, dNil, dCons, dCB, dTup, dLst, dCall, dCallV, dCallF, dFld, dNoPart, dPart, dSl, dIsSeq, dBM, dTM, dXf, dYes, fSub, fDiv, fMod, fPow, fAdd, fCat, fMul, fRep, fLt, fLe, fGt, fGe, fIs, fIsNot, fIx, fSl, fSlL, fLen, fList, fTuple, fMax2, fMin2, fMax, fMin, fAbs, fInt, fIsi, fIsiN, fIsiC, gN, gT, gT0, gTC, diSeq, diRng1, diRng2, diEnum, dstart, De.off, exD, suiteD, List.map_cons, List.map_nil, List.length_cons, List.length_nil, Nat.reduceAdd, Nat.reduceSub, List.replicate_succ, List.replicate_zero, List.getElem?_cons_zero, List.getElem?_cons_succ, List.set_cons_zero, List.set_cons_succ, Option.some.injEq, exists_eq_left', exists_eq_left, exists_and_left, D.int.injEq, D.bl.injEq, D.lst.injEq, D.tup.injEq, D.str.injEq, D.exc.injEq, List.cons.injEq, and_true, true_and, List.nil_append, List.cons_append, List.append_nil, reduceCtorEq, false_and, exists_false, or_false, false_or, or_true, true_or, and_false, Int.reduceNeg, decide_eq_true_eq, Bool.not_eq_true', decide_eq_false_iff_not, and_assoc, Nat.zero_le, List.length_map, Int.zero_add, Int.reduceLT, Int.reduceLE, Int.reducePow, Int.reduceToNat, Int.reduceAdd, Int.reduceMul, Int.reduceSub, Nat.reduceLeDiff, fEq_ints, fNe_ints, fEq_lstsI, fNe_lstsI, fEq_tupsI, fNe_tupsI, noLA_ints, fSum_lst, fSum_tup, fSorted_lst, fSorted_tup, ↓reduceIte, Bool.false_eq_true, Bool.true_eq_false, false_implies, true_implies, implies_true, forall_const, Bool.not_true, Bool.not_false, s_d_l_draw, sDraw]
  refine fun a a0 a1 b b0 b1 => ⟨by decide, _, rfl, forB_i (fun k δ => ∃ v2 v3 v4 v5 : Option D, δ = [some .hand, some (.int p), v2, v3, v4, v5]) ⟨_, _, _, _, rfl⟩ ?_ ?_⟩
  · rintro k δ' y N hN ⟨v2, v3, v4, v5, rfl⟩ hy
    obtain ⟨t, rfl, t0, t1⟩ : ∃ t : Int, y = .int t ∧ 0 ≤ t ∧ t ≤ 1000000000 := by
      have := List.mem_of_getElem? hy
      simp only [List.mem_cons, List.not_mem_nil, or_false] at this
      rcases this with rfl | rfl | rfl | rfl <;> exact ⟨_, rfl, by omega, by omega⟩
    simp only [gN, gT, gT0, gTC, wipeD, D.tup.injEq, D.lst.injEq, List.length_cons, List.length_nil, Nat.reduceAdd, List.cons.injEq, exists_eq_left', exists_eq_left, exists_and_left, and_true, true_and, and_assoc, List.set_cons_zero, List.set_cons_succ, reduceCtorEq, Int.zero_add]
    refine sq_cut fun R2 eR2 => ?_
    simp only [fLenSet, fMul3, dTr, tru, dAsgT, gS, dMake2, dCBK, fMinD, dCallG, fRepr, fEqS, dSq, dAsg, dNx, dExp, dRet, dRetN, dIfS, dBk, dCt, dAppend, dInsert, dRemove, dPopAt, dSetAt, dRaise, dRaise0, dRaiseL, dVar, dC, dOp, dT, dChain, dNotT, dAndT, dOrT, dAndV, dOrV, dNotV, dIf, dNeg, dNil, dCons, dCB, dTup, dLst, dCall, dCallV, dCallF, dFld, dNoPart, dPart, dSl, dIsSeq, dBM, dTM, dXf, dYes, fSub, fDiv, fMod, fPow, fAdd, fCat, fMul, fRep, fLt, fLe, fGt, fGe, fIs, fIsNot, fIx, fSl, fSlL, fLen, fList, fTuple, fMax2, fMin2, fMax, fMin, fAbs, fInt, fIsi, fIsiN, fIsiC, gN, gT, gT0, gTC, diSeq, diRng1, diRng2, diEnum, dstart, De.off, exD, suiteD, List.map_cons, List.map_nil, List.length_cons, List.length_nil, Nat.reduceAdd, Nat.reduceSub, List.replicate_succ, List.replicate_zero, List.getElem?_cons_zero, List.getElem?_cons_succ, List.set_cons_zero, List.set_cons_succ, Option.some.injEq, exists_eq_left', exists_eq_left, exists_and_left, D.int.injEq, D.bl.injEq, D.lst.injEq, D.tup.injEq, D.str.injEq, D.exc.injEq, List.cons.injEq, and_true, true_and, List.nil_append, List.cons_append, List.append_nil, reduceCtorEq, false_and, exists_false, or_false, false_or, or_true, true_or, and_false, Int.reduceNeg, decide_eq_true_eq, Bool.not_eq_true', decide_eq_false_iff_not, and_assoc, Nat.zero_le, List.length_map, Int.zero_add, Int.reduceLT, Int.reduceLE, Int.reducePow, Int.reduceToNat, Int.reduceAdd, Int.reduceMul, Int.reduceSub, Nat.reduceLeDiff, fEq_ints, fNe_ints, fEq_lstsI, fNe_lstsI, fEq_tupsI, fNe_tupsI, noLA_ints, fSum_lst, fSum_tup, fSorted_lst, fSorted_tup, ↓reduceIte, Bool.false_eq_true, Bool.true_eq_false, false_implies, true_implies, implies_true, forall_const, Bool.not_true, Bool.not_false]
    refine coin_ok p0 p1 t0 t1 ?_
    subst eR2
    simp only [fLenSet, fMul3, dTr, tru, dAsgT, gS, dMake2, dCBK, fMinD, dCallG, fRepr, fEqS, dSq, dAsg, dNx, dExp, dRet, dRetN, dIfS, dBk, dCt, dAppend, dInsert, dRemove, dPopAt, dSetAt, dRaise, dRaise0, dRaiseL, dVar, dC, dOp, dT, dChain, dNotT, dAndT, dOrT, dAndV, dOrV, dNotV, dIf, dNeg, dNil, dCons, dCB, dTup, dLst, dCall, dCallV, dCallF, dFld, dNoPart, dPart, dSl, dIsSeq, dBM, dTM, dXf, dYes, fSub, fDiv, fMod, fPow, fAdd, fCat, fMul, fRep, fLt, fLe, fGt, fGe, fIs, fIsNot, fIx, fSl, fSlL, fLen, fList, fTuple, fMax2, fMin2, fMax, fMin, fAbs, fInt, fIsi, fIsiN, fIsiC, gN, gT, gT0, gTC, diSeq, diRng1, diRng2, diEnum, dstart, De.off, exD, suiteD, List.map_cons, List.map_nil, List.length_cons, List.length_nil, Nat.reduceAdd, Nat.reduceSub, List.replicate_succ, List.replicate_zero, List.getElem?_cons_zero, List.getElem?_cons_succ, List.set_cons_zero, List.set_cons_succ, Option.some.injEq, exists_eq_left', exists_eq_left, exists_and_left, D.int.injEq, D.bl.injEq, D.lst.injEq, D.tup.injEq, D.str.injEq, D.exc.injEq, List.cons.injEq, and_true, true_and, List.nil_append, List.cons_append, List.append_nil, reduceCtorEq, false_and, exists_false, or_false, false_or, or_true, true_or, and_false, Int.reduceNeg, decide_eq_true_eq, Bool.not_eq_true', decide_eq_false_iff_not, and_assoc, Nat.zero_le, List.length_map, Int.zero_add, Int.reduceLT, Int.reduceLE, Int.reducePow, Int.reduceToNat, Int.reduceAdd, Int.reduceMul, Int.reduceSub, Nat.reduceLeDiff, fEq_ints, fNe_ints, fEq_lstsI, fNe_lstsI, fEq_tupsI, fNe_tupsI, noLA_ints, fSum_lst, fSum_tup, fSorted_lst, fSorted_tup, ↓reduceIte, Bool.false_eq_true, Bool.true_eq_false, false_implies, true_implies, implies_true, forall_const, Bool.not_true, Bool.not_false, s_d_l_is_whole, s_d_l_up]
    refine ⟨rfl, ?_⟩
    rw [if_neg (show ¬ isNum (.int (upI t p)) = false from fun z => nomatch z)]
    refine ⟨by omega, by omega, ?_⟩
    rw [if_neg (by simp)]
    exact hN _ ⟨_, _, _, _, rfl⟩
  · rintro δ' ⟨v2, v3, v4, v5, rfl⟩
    subst eR
    dsimp only
    refine sq_cut fun R eR => ?_
    refine for_open ?_
    simp only [fLenSet, fMul3, dTr, tru, dAsgT, gS, dMake2, dCBK, fMinD, dCallG, fRepr, fEqS, dSq, dAsg, dNx, dExp, dRet, dRetN, dIfS, dBk, dCt, dAppend, dInsert, dRemove, dPopAt, dSetAt, dRaise, dRaise0, dRaiseL, dVar, dC, dOp, dT, dChain, dNotT, dAndT, dOrT, dAndV, dOrV, dNotV, dIf, dNeg, dNil, dCons, dCB, dTup, dLst, dCall, dCallV, dCallF, dFld, dNoPart, dPart, dSl, dIsSeq, dBM, dTM, dXf, dYes, fSub, fDiv, fMod, fPow, fAdd, fCat, fMul, fRep, fLt, fLe, fGt, fGe, fIs, fIsNot, fIx, fSl, fSlL, fLen, fList, fTuple, fMax2, fMin2, fMax, fMin, fAbs, fInt, fIsi, fIsiN, fIsiC, gN, gT, gT0, gTC, diSeq, diRng1, diRng2, diEnum, dstart, De.off, exD, suiteD, List.map_cons, List.map_nil, List.length_cons, List.length_nil, Nat.reduceAdd, Nat.reduceSub, List.replicate_succ, List.replicate_zero, List.getElem?_cons_zero, List.getElem?_cons_succ, List.set_cons_zero, List.set_cons_succ, Option.some.injEq, exists_eq_left', exists_eq_left, exists_and_left, D.int.injEq, D.bl.injEq, D.lst.injEq, D.tup.injEq, D.str.injEq, D.exc.injEq, List.cons.injEq, and_true, true_and, List.nil_append, List.cons_append, List.append_nil, reduceCtorEq, false_and, exists_false, or_false, false_or, or_true, true_or, and_false, Int.reduceNeg, decide_eq_true_eq, Bool.not_eq_true', decide_eq_false_iff_not, and_assoc, Nat.zero_le, List.length_map, Int.zero_add, Int.reduceLT, Int.reduceLE, Int.reducePow, Int.reduceToNat, Int.reduceAdd, Int.reduceMul, Int.reduceSub, Nat.reduceLeDiff, fEq_ints, fNe_ints, fEq_lstsI, fNe_lstsI, fEq_tupsI, fNe_tupsI, noLA_ints, fSum_lst, fSum_tup, fSorted_lst, fSorted_tup, ↓reduceIte, Bool.false_eq_true, Bool.true_eq_false, false_implies, true_implies, implies_true, forall_const, Bool.not_true, Bool.not_false, s_d_l_draw, sDraw]
    refine fun a a0 a1 b b0 b1 => ⟨by decide, _, rfl, forB_i (fun k δ => ∃ v2 v3 v4 v5 : Option D, δ = [some .hand, some (.int p), v2, v3, v4, v5]) ⟨_, _, _, _, rfl⟩ ?_ ?_⟩
    · rintro k δ' y N hN ⟨v2, v3, v4, v5, rfl⟩ hy
      obtain ⟨c, rfl, c0, c1⟩ : ∃ t : Int, y = .int t ∧ 1 ≤ t ∧ t ≤ 1000000000 := by
        have := List.mem_of_getElem? hy
        simp only [List.mem_cons, List.not_mem_nil, or_false] at this
        rcases this with rfl | rfl | rfl | rfl <;> exact ⟨_, rfl, by omega, by omega⟩
      simp only [gN, gT, gT0, gTC, wipeD, D.tup.injEq, D.lst.injEq, List.length_cons, List.length_nil, Nat.reduceAdd, List.cons.injEq, exists_eq_left', exists_eq_left, exists_and_left, and_true, true_and, and_assoc, List.set_cons_zero, List.set_cons_succ, reduceCtorEq, Int.zero_add]
      refine sq_cut fun R2 eR2 => ?_
      simp only [fLenSet, fMul3, dTr, tru, dAsgT, gS, dMake2, dCBK, fMinD, dCallG, fRepr, fEqS, dSq, dAsg, dNx, dExp, dRet, dRetN, dIfS, dBk, dCt, dAppend, dInsert, dRemove, dPopAt, dSetAt, dRaise, dRaise0, dRaiseL, dVar, dC, dOp, dT, dChain, dNotT, dAndT, dOrT, dAndV, dOrV, dNotV, dIf, dNeg, dNil, dCons, dCB, dTup, dLst, dCall, dCallV, dCallF, dFld, dNoPart, dPart, dSl, dIsSeq, dBM, dTM, dXf, dYes, fSub, fDiv, fMod, fPow, fAdd, fCat, fMul, fRep, fLt, fLe, fGt, fGe, fIs, fIsNot, fIx, fSl, fSlL, fLen, fList, fTuple, fMax2, fMin2, fMax, fMin, fAbs, fInt, fIsi, fIsiN, fIsiC, gN, gT, gT0, gTC, diSeq, diRng1, diRng2, diEnum, dstart, De.off, exD, suiteD, List.map_cons, List.map_nil, List.length_cons, List.length_nil, Nat.reduceAdd, Nat.reduceSub, List.replicate_succ, List.replicate_zero, List.getElem?_cons_zero, List.getElem?_cons_succ, List.set_cons_zero, List.set_cons_succ, Option.some.injEq, exists_eq_left', exists_eq_left, exists_and_left, D.int.injEq, D.bl.injEq, D.lst.injEq, D.tup.injEq, D.str.injEq, D.exc.injEq, List.cons.injEq, and_true, true_and, List.nil_append, List.cons_append, List.append_nil, reduceCtorEq, false_and, exists_false, or_false, false_or, or_true, true_or, and_false, Int.reduceNeg, decide_eq_true_eq, Bool.not_eq_true', decide_eq_false_iff_not, and_assoc, Nat.zero_le, List.length_map, Int.zero_add, Int.reduceLT, Int.reduceLE, Int.reducePow, Int.reduceToNat, Int.reduceAdd, Int.reduceMul, Int.reduceSub, Nat.reduceLeDiff, fEq_ints, fNe_ints, fEq_lstsI, fNe_lstsI, fEq_tupsI, fNe_tupsI, noLA_ints, fSum_lst, fSum_tup, fSorted_lst, fSorted_tup, ↓reduceIte, Bool.false_eq_true, Bool.true_eq_false, false_implies, true_implies, implies_true, forall_const, Bool.not_true, Bool.not_false]
      refine least_ok p0 p1 c0 c1 ?_
      subst eR2
      refine sq_cut fun R2 eR2 => ?_
      simp only [fLenSet, fMul3, dTr, tru, dAsgT, gS, dMake2, dCBK, fMinD, dCallG, fRepr, fEqS, dSq, dAsg, dNx, dExp, dRet, dRetN, dIfS, dBk, dCt, dAppend, dInsert, dRemove, dPopAt, dSetAt, dRaise, dRaise0, dRaiseL, dVar, dC, dOp, dT, dChain, dNotT, dAndT, dOrT, dAndV, dOrV, dNotV, dIf, dNeg, dNil, dCons, dCB, dTup, dLst, dCall, dCallV, dCallF, dFld, dNoPart, dPart, dSl, dIsSeq, dBM, dTM, dXf, dYes, fSub, fDiv, fMod, fPow, fAdd, fCat, fMul, fRep, fLt, fLe, fGt, fGe, fIs, fIsNot, fIx, fSl, fSlL, fLen, fList, fTuple, fMax2, fMin2, fMax, fMin, fAbs, fInt, fIsi, fIsiN, fIsiC, gN, gT, gT0, gTC, diSeq, diRng1, diRng2, diEnum, dstart, De.off, exD, suiteD, List.map_cons, List.map_nil, List.length_cons, List.length_nil, Nat.reduceAdd, Nat.reduceSub, List.replicate_succ, List.replicate_zero, List.getElem?_cons_zero, List.getElem?_cons_succ, List.set_cons_zero, List.set_cons_succ, Option.some.injEq, exists_eq_left', exists_eq_left, exists_and_left, D.int.injEq, D.bl.injEq, D.lst.injEq, D.tup.injEq, D.str.injEq, D.exc.injEq, List.cons.injEq, and_true, true_and, List.nil_append, List.cons_append, List.append_nil, reduceCtorEq, false_and, exists_false, or_false, false_or, or_true, true_or, and_false, Int.reduceNeg, decide_eq_true_eq, Bool.not_eq_true', decide_eq_false_iff_not, and_assoc, Nat.zero_le, List.length_map, Int.zero_add, Int.reduceLT, Int.reduceLE, Int.reducePow, Int.reduceToNat, Int.reduceAdd, Int.reduceMul, Int.reduceSub, Nat.reduceLeDiff, fEq_ints, fNe_ints, fEq_lstsI, fNe_lstsI, fEq_tupsI, fNe_tupsI, noLA_ints, fSum_lst, fSum_tup, fSorted_lst, fSorted_tup, ↓reduceIte, Bool.false_eq_true, Bool.true_eq_false, false_implies, true_implies, implies_true, forall_const, Bool.not_true, Bool.not_false]
      refine fewest_ok p0 p1 c0 c1 fun m hm => ?_
      subst eR2
      refine sq_cut fun R2 eR2 => ?_
      simp only [fLenSet, fMul3, dTr, tru, dAsgT, gS, dMake2, dCBK, fMinD, dCallG, fRepr, fEqS, dSq, dAsg, dNx, dExp, dRet, dRetN, dIfS, dBk, dCt, dAppend, dInsert, dRemove, dPopAt, dSetAt, dRaise, dRaise0, dRaiseL, dVar, dC, dOp, dT, dChain, dNotT, dAndT, dOrT, dAndV, dOrV, dNotV, dIf, dNeg, dNil, dCons, dCB, dTup, dLst, dCall, dCallV, dCallF, dFld, dNoPart, dPart, dSl, dIsSeq, dBM, dTM, dXf, dYes, fSub, fDiv, fMod, fPow, fAdd, fCat, fMul, fRep, fLt, fLe, fGt, fGe, fIs, fIsNot, fIx, fSl, fSlL, fLen, fList, fTuple, fMax2, fMin2, fMax, fMin, fAbs, fInt, fIsi, fIsiN, fIsiC, gN, gT, gT0, gTC, diSeq, diRng1, diRng2, diEnum, dstart, De.off, exD, suiteD, List.map_cons, List.map_nil, List.length_cons, List.length_nil, Nat.reduceAdd, Nat.reduceSub, List.replicate_succ, List.replicate_zero, List.getElem?_cons_zero, List.getElem?_cons_succ, List.set_cons_zero, List.set_cons_succ, Option.some.injEq, exists_eq_left', exists_eq_left, exists_and_left, D.int.injEq, D.bl.injEq, D.lst.injEq, D.tup.injEq, D.str.injEq, D.exc.injEq, List.cons.injEq, and_true, true_and, List.nil_append, List.cons_append, List.append_nil, reduceCtorEq, false_and, exists_false, or_false, false_or, or_true, true_or, and_false, Int.reduceNeg, decide_eq_true_eq, Bool.not_eq_true', decide_eq_false_iff_not, and_assoc, Nat.zero_le, List.length_map, Int.zero_add, Int.reduceLT, Int.reduceLE, Int.reducePow, Int.reduceToNat, Int.reduceAdd, Int.reduceMul, Int.reduceSub, Nat.reduceLeDiff, fEq_ints, fNe_ints, fEq_lstsI, fNe_lstsI, fEq_tupsI, fNe_tupsI, noLA_ints, fSum_lst, fSum_tup, fSorted_lst, fSorted_tup, ↓reduceIte, Bool.false_eq_true, Bool.true_eq_false, false_implies, true_implies, implies_true, forall_const, Bool.not_true, Bool.not_false]
      refine ⟨.inl ⟨by omega, by omega⟩, ?_⟩
      subst eR2
      have eT : p * (c - 1) + 1 = (p - 1) * (c - 1) + c := by rw [Int.sub_mul]; omega
      have aT : (p - 1) * (c - 1) ≤ 4 * (c - 1) := Int.mul_le_mul_of_nonneg_right (by omega) (by omega)
      have := far_gr p0 p1
      refine sq_cut fun R2 eR2 => ?_
      simp only [fLenSet, fMul3, dTr, tru, dAsgT, gS, dMake2, dCBK, fMinD, dCallG, fRepr, fEqS, dSq, dAsg, dNx, dExp, dRet, dRetN, dIfS, dBk, dCt, dAppend, dInsert, dRemove, dPopAt, dSetAt, dRaise, dRaise0, dRaiseL, dVar, dC, dOp, dT, dChain, dNotT, dAndT, dOrT, dAndV, dOrV, dNotV, dIf, dNeg, dNil, dCons, dCB, dTup, dLst, dCall, dCallV, dCallF, dFld, dNoPart, dPart, dSl, dIsSeq, dBM, dTM, dXf, dYes, fSub, fDiv, fMod, fPow, fAdd, fCat, fMul, fRep, fLt, fLe, fGt, fGe, fIs, fIsNot, fIx, fSl, fSlL, fLen, fList, fTuple, fMax2, fMin2, fMax, fMin, fAbs, fInt, fIsi, fIsiN, fIsiC, gN, gT, gT0, gTC, diSeq, diRng1, diRng2, diEnum, dstart, De.off, exD, suiteD, List.map_cons, List.map_nil, List.length_cons, List.length_nil, Nat.reduceAdd, Nat.reduceSub, List.replicate_succ, List.replicate_zero, List.getElem?_cons_zero, List.getElem?_cons_succ, List.set_cons_zero, List.set_cons_succ, Option.some.injEq, exists_eq_left', exists_eq_left, exists_and_left, D.int.injEq, D.bl.injEq, D.lst.injEq, D.tup.injEq, D.str.injEq, D.exc.injEq, List.cons.injEq, and_true, true_and, List.nil_append, List.cons_append, List.append_nil, reduceCtorEq, false_and, exists_false, or_false, false_or, or_true, true_or, and_false, Int.reduceNeg, decide_eq_true_eq, Bool.not_eq_true', decide_eq_false_iff_not, and_assoc, Nat.zero_le, List.length_map, Int.zero_add, Int.reduceLT, Int.reduceLE, Int.reducePow, Int.reduceToNat, Int.reduceAdd, Int.reduceMul, Int.reduceSub, Nat.reduceLeDiff, fEq_ints, fNe_ints, fEq_lstsI, fNe_lstsI, fEq_tupsI, fNe_tupsI, noLA_ints, fSum_lst, fSum_tup, fSorted_lst, fSorted_tup, ↓reduceIte, Bool.false_eq_true, Bool.true_eq_false, false_implies, true_implies, implies_true, forall_const, Bool.not_true, Bool.not_false, s_d_l_is_whole]
      refine ⟨rfl, ?_⟩
      rw [if_neg (show ¬ isNum (.int (p * (c - 1) + 1)) = false from fun z => nomatch z), if_neg (by omega)]
      subst eR2
      simp only [fLenSet, fMul3, dTr, tru, dAsgT, gS, dMake2, dCBK, fMinD, dCallG, fRepr, fEqS, dSq, dAsg, dNx, dExp, dRet, dRetN, dIfS, dBk, dCt, dAppend, dInsert, dRemove, dPopAt, dSetAt, dRaise, dRaise0, dRaiseL, dVar, dC, dOp, dT, dChain, dNotT, dAndT, dOrT, dAndV, dOrV, dNotV, dIf, dNeg, dNil, dCons, dCB, dTup, dLst, dCall, dCallV, dCallF, dFld, dNoPart, dPart, dSl, dIsSeq, dBM, dTM, dXf, dYes, fSub, fDiv, fMod, fPow, fAdd, fCat, fMul, fRep, fLt, fLe, fGt, fGe, fIs, fIsNot, fIx, fSl, fSlL, fLen, fList, fTuple, fMax2, fMin2, fMax, fMin, fAbs, fInt, fIsi, fIsiN, fIsiC, gN, gT, gT0, gTC, diSeq, diRng1, diRng2, diEnum, dstart, De.off, exD, suiteD, List.map_cons, List.map_nil, List.length_cons, List.length_nil, Nat.reduceAdd, Nat.reduceSub, List.replicate_succ, List.replicate_zero, List.getElem?_cons_zero, List.getElem?_cons_succ, List.set_cons_zero, List.set_cons_succ, Option.some.injEq, exists_eq_left', exists_eq_left, exists_and_left, D.int.injEq, D.bl.injEq, D.lst.injEq, D.tup.injEq, D.str.injEq, D.exc.injEq, List.cons.injEq, and_true, true_and, List.nil_append, List.cons_append, List.append_nil, reduceCtorEq, false_and, exists_false, or_false, false_or, or_true, true_or, and_false, Int.reduceNeg, decide_eq_true_eq, Bool.not_eq_true', decide_eq_false_iff_not, and_assoc, Nat.zero_le, List.length_map, Int.zero_add, Int.reduceLT, Int.reduceLE, Int.reducePow, Int.reduceToNat, Int.reduceAdd, Int.reduceMul, Int.reduceSub, Nat.reduceLeDiff, fEq_ints, fNe_ints, fEq_lstsI, fNe_lstsI, fEq_tupsI, fNe_tupsI, noLA_ints, fSum_lst, fSum_tup, fSorted_lst, fSorted_tup, ↓reduceIte, Bool.false_eq_true, Bool.true_eq_false, false_implies, true_implies, implies_true, forall_const, Bool.not_true, Bool.not_false, s_d_l_is_whole, s_d_l_fewest]
      refine ⟨rfl, ?_⟩
      rw [if_neg (show ¬ isNum (.int ((m : Int) + 1)) = false from fun z => nomatch z)]
      refine ⟨p0, p1, by omega, fun k2 hk2 => ?_⟩
      have := hm.one hk2
      rw [if_neg (by omega)]
      exact hN _ ⟨_, _, _, _, rfl⟩
    · rintro δ' ⟨v2, v3, v4, v5, rfl⟩
      subst eR
      simp only [fLenSet, fMul3, dTr, tru, dAsgT, gS, dMake2, dCBK, fMinD, dCallG, fRepr, fEqS, dSq, dAsg, dNx, dExp, dRet, dRetN, dIfS, dBk, dCt, dAppend, dInsert, dRemove, dPopAt, dSetAt, dRaise, dRaise0, dRaiseL, dVar, dC, dOp, dT, dChain, dNotT, dAndT, dOrT, dAndV, dOrV, dNotV, dIf, dNeg, dNil, dCons, dCB, dTup, dLst, dCall, dCallV, dCallF, dFld, dNoPart, dPart, dSl, dIsSeq, dBM, dTM, dXf, dYes, fSub, fDiv, fMod, fPow, fAdd, fCat, fMul, fRep, fLt, fLe, fGt, fGe, fIs, fIsNot, fIx, fSl, fSlL, fLen, fList, fTuple, fMax2, fMin2, fMax, fMin, fAbs, fInt, fIsi, fIsiN, fIsiC, gN, gT, gT0, gTC, diSeq, diRng1, diRng2, diEnum, dstart, De.off, exD, suiteD, List.map_cons, List.map_nil, List.length_cons, List.length_nil, Nat.reduceAdd, Nat.reduceSub, List.replicate_succ, List.replicate_zero, List.getElem?_cons_zero, List.getElem?_cons_succ, List.set_cons_zero, List.set_cons_succ, Option.some.injEq, exists_eq_left', exists_eq_left, exists_and_left, D.int.injEq, D.bl.injEq, D.lst.injEq, D.tup.injEq, D.str.injEq, D.exc.injEq, List.cons.injEq, and_true, true_and, List.nil_append, List.cons_append, List.append_nil, reduceCtorEq, false_and, exists_false, or_false, false_or, or_true, true_or, and_false, Int.reduceNeg, decide_eq_true_eq, Bool.not_eq_true', decide_eq_false_iff_not, and_assoc, Nat.zero_le, List.length_map, Int.zero_add, Int.reduceLT, Int.reduceLE, Int.reducePow, Int.reduceToNat, Int.reduceAdd, Int.reduceMul, Int.reduceSub, Nat.reduceLeDiff, fEq_ints, fNe_ints, fEq_lstsI, fNe_lstsI, fEq_tupsI, fNe_tupsI, noLA_ints, fSum_lst, fSum_tup, fSorted_lst, fSorted_tup, ↓reduceIte, Bool.false_eq_true, Bool.true_eq_false, false_implies, true_implies, implies_true, forall_const, Bool.not_true, Bool.not_false]
      exact q

end
end My
set_option Elab.async false
set_option linter.all false
set_option maxRecDepth 100000
set_option maxHeartbeats 4000000
namespace My
open PySem PySem.Spec PyProof.Rows L2 Gen DL
section
variable {P : Program} {w : World} {K : PySem.W.Frag} {mg : Str → Option Value} {base : Heap} { cBadPeople cBadCount cBadTotal cBadCoin cBadUnlike : Addr}
/-- rows of so many coins, of a total up to w -/
def rowsM (p w : Int) : Nat → List (List Int)
  | 0 => [[]]
  | k + 1 => (grown p (rowsM p w k)).filter fun r => decide (r.sum ≤ w)
theorem mem_rowsM {p w : Int} (w0 : 0 ≤ w) : ∀ {k : Nat} {r : List Int}, r ∈ rowsM p w k ↔ Row p r ∧ r.length = k ∧ r.sum ≤ w
  | 0, r => by
    constructor
    · intro h
      cases List.mem_singleton.mp h
      exact ⟨trivial, rfl, w0⟩
    · rintro ⟨_, h, _⟩
      rw [List.eq_nil_of_length_eq_zero h]
      exact List.mem_singleton.mpr rfl
  | k + 1, r => by
    show r ∈ (grown p (rowsM p w k)).filter _ ↔ _
    rw [List.mem_filter, mem_grown, decide_eq_true_eq]
    constructor
    · rintro ⟨⟨a, c, h1, rfl, h2, h3⟩, h4⟩
      obtain ⟨g1, g2, _⟩ := (mem_rowsM w0).mp h1
      exact ⟨Row.snoc.mpr ⟨g1, h2, h3⟩, by rw [List.length_append, g2]; rfl, h4⟩
    · rintro ⟨h1, h2, h3⟩
      rcases List.eq_nil_or_concat r with rfl | ⟨a, c, rfl⟩
      · cases h2
      · rw [List.concat_eq_append] at *
        have hc := h1.low c (List.mem_append_right _ List.mem_cons_self)
        obtain ⟨g1, g2, g3⟩ := Row.snoc.mp h1
        refine ⟨⟨a, c, (mem_rowsM w0).mpr ⟨g1, by rw [List.length_append] at h2; simpa using h2, ?_⟩, rfl, g2, g3⟩, h3⟩
        rw [List.sum_append] at h3
        simp at h3
        omega
/-- what rows weigh: half as much with each coin's worth more -/
def wt (w : Int) (rows : List (List Int)) : Nat := (rows.map fun r => 2 ^ (w - r.sum).toNat).sum
theorem wt_len {w : Int} : ∀ rows : List (List Int), rows.length ≤ wt w rows
  | [] => Nat.le_refl _
  | r :: rows => by
    have := wt_len (w := w) rows
    have := Nat.one_le_two_pow (n := (w - r.sum).toNat)
    unfold wt at *
    rw [List.map_cons, List.sum_cons, List.length_cons]
    omega
theorem wt_append {w : Int} (a b : List (List Int)) : wt w (a ++ b) = wt w a + wt w b := by
  unfold wt
  rw [List.map_append, List.sum_append_nat]
theorem wt_tele {w : Int} {r : List Int} : ∀ (n : Nat) (l : Int), 1 ≤ l → r.sum + l ≤ w + 1 → wt w (((List.range n).map fun (j : Nat) => r ++ [l + (j : Int)]).filter fun q => decide (q.sum ≤ w)) ≤ 2 ^ (w - r.sum - (l - 1)).toNat
  | 0, l, _, _ => Nat.zero_le _
  | n + 1, l, h1, h2 => by
    rw [List.range_succ_eq_map, List.map_cons, List.map_map]
    have e : ((fun (j : Nat) => r ++ [l + (j : Int)]) ∘ Nat.succ) = fun (j : Nat) => r ++ [l + 1 + (j : Int)] := by
      funext j
      simp only [Function.comp]
      congr 2
      omega
    rw [e]
    by_cases z : r.sum + l ≤ w
    · have ih := wt_tele (w := w) (r := r) n (l + 1) (by omega) (by omega)
      rw [List.filter_cons_of_pos (by simp; omega)]
      have : wt w ((r ++ [l + ((0 : Nat) : Int)]) :: ((List.range n).map fun (j : Nat) => r ++ [l + 1 + (j : Int)]).filter fun q => decide (q.sum ≤ w)) = 2 ^ (w - (r ++ [l + ((0 : Nat) : Int)]).sum).toNat + wt w (((List.range n).map fun (j : Nat) => r ++ [l + 1 + (j : Int)]).filter fun q => decide (q.sum ≤ w)) := rfl
      rw [this]
      have e1 : (r ++ [l + ((0 : Nat) : Int)]).sum = r.sum + l := by rw [List.sum_append]; simp
      rw [e1]
      have e2 : (w - r.sum - (l - 1)).toNat = (w - (r.sum + l)).toNat + 1 := by omega
      have e3 : (w - r.sum - (l + 1 - 1)).toNat = (w - (r.sum + l)).toNat := by omega
      rw [e3] at ih
      rw [e2, Nat.pow_succ]
      omega
    · rw [List.filter_cons_of_neg (by simp; omega)]
      have : (((List.range n).map fun (j : Nat) => r ++ [l + 1 + (j : Int)]).filter fun q => decide (q.sum ≤ w)) = [] := by
        rw [List.filter_eq_nil_iff]
        intro q hq
        obtain ⟨j, _, rfl⟩ := List.mem_map.mp hq
        rw [List.sum_append]
        simp
        omega
      rw [this]
      exact Nat.zero_le _
theorem wt_kids {p w : Int} {r : List Int} (hp : 2 ≤ p) (h : Row p r) (hw : r.sum ≤ w) : wt w ((kids p r).filter fun q => decide (q.sum ≤ w)) ≤ 2 ^ (w - r.sum).toNat := by
  have hl := (h.last hp).2
  unfold kids
  generalize r.getLastD 1 = l at hl ⊢
  by_cases z : r.sum + l ≤ w + 1
  · refine Nat.le_trans (wt_tele _ _ hl z) (Nat.pow_le_pow_right (by decide) (by omega))
  · have : (((List.range (nxt p r.sum + 1 - l).toNat).map fun (j : Nat) => r ++ [l + (j : Int)]).filter fun q => decide (q.sum ≤ w)) = [] := by
      rw [List.filter_eq_nil_iff]
      intro q hq
      obtain ⟨j, _, rfl⟩ := List.mem_map.mp hq
      rw [List.sum_append]
      simp
      omega
    rw [this]
    exact Nat.zero_le _
theorem wt_grown {p w : Int} (hp : 2 ≤ p) : ∀ {rows : List (List Int)}, (∀ r, r ∈ rows → Row p r ∧ r.sum ≤ w) → wt w ((grown p rows).filter fun q => decide (q.sum ≤ w)) ≤ wt w rows
  | [], _ => Nat.le_refl _
  | r :: rows, h => by
    obtain ⟨h1, h2⟩ := h r List.mem_cons_self
    have a := wt_kids hp h1 h2
    have b := wt_grown (rows := rows) hp fun q hq => h q (List.mem_cons_of_mem _ hq)
    unfold grown at *
    rw [List.flatMap_cons, List.filter_append, wt_append]
    show _ ≤ 2 ^ (w - r.sum).toNat + wt w rows
    omega
theorem rowsM_len {p w : Int} (hp : 2 ≤ p) (w0 : 0 ≤ w) (w12 : w ≤ 12) (k : Nat) : (rowsM p w k).length ≤ 4096 ∧ heap_ p (rowsM p w k) ≤ 60000 := by
  have hw : ∀ k, wt w (rowsM p w k) ≤ 4096 := fun k => by
    induction k with
    | zero =>
      show 2 ^ (w - ([] : List Int).sum).toNat + 0 ≤ 4096
      have : ∀ j : Nat, j ≤ 12 → 2 ^ j + 0 ≤ 4096 := by decide
      exact this _ (by simp; omega)
    | succ k ih => exact Nat.le_trans (wt_grown hp fun r hr => let h := (mem_rowsM w0).mp hr; ⟨h.1, h.2.2⟩) ih
  have h1 := Nat.le_trans (wt_len (w := w) _) (hw k)
  have h2 := heap_le (p := p) (n := 13) (rows := rowsM p w k) fun r hr => by
    obtain ⟨g1, _, g3⟩ := (mem_rowsM w0).mp hr
    have := nxt_le hp g1.pos
    omega
  exact ⟨h1, by omega⟩
def foundM (p w : Int) : Nat → List (List Int)
  | 0 => [[]]
  | k + 1 => foundM p w k ++ rowsM p w (k + 1)
theorem foundM_len {p w : Int} (hp : 2 ≤ p) (w0 : 0 ≤ w) (w12 : w ≤ 12) : ∀ k : Nat, (foundM p w k).length ≤ 1 + 4096 * k
  | 0 => Nat.le_refl _
  | k + 1 => by
    have := foundM_len hp w0 w12 k
    have := (rowsM_len hp w0 w12 (k + 1)).1
    show (foundM p w k ++ rowsM p w (k + 1)).length ≤ _
    rw [List.length_append]
    omega
theorem mem_foundM {p w : Int} (w0 : 0 ≤ w) : ∀ {k : Nat} {r : List Int}, r ∈ foundM p w k ↔ Row p r ∧ r.length ≤ k ∧ r.sum ≤ w
  | 0, r => by
    constructor
    · intro h
      cases List.mem_singleton.mp h
      exact ⟨trivial, Nat.le_refl _, w0⟩
    · rintro ⟨_, h, _⟩
      obtain rfl := List.eq_nil_of_length_eq_zero (show r.length = 0 by omega)
      exact List.mem_singleton.mpr rfl
  | k + 1, r => by
    show r ∈ foundM p w k ++ rowsM p w (k + 1) ↔ _
    rw [List.mem_append, mem_foundM w0, mem_rowsM w0]
    constructor
    · rintro (⟨a, b, c⟩ | ⟨a, b, c⟩)
      · exact ⟨a, by omega, c⟩
      · exact ⟨a, by omega, c⟩
    · rintro ⟨a, b, c⟩
      by_cases e : r.length = k + 1
      · exact .inr ⟨a, e, c⟩
      · exact .inl ⟨a, by omega, c⟩
/-- all rows of a total up to w -/
theorem mem_all {p : Int} {w : Nat} {r : List Int} : r ∈ foundM p w w ↔ Row p r ∧ r.sum ≤ w := by
  rw [mem_foundM (by omega)]
  exact ⟨fun h => ⟨h.1, h.2.2⟩, fun h => ⟨h.1, by have := h.1.len; omega, h.2⟩⟩

end
end My
set_option Elab.async false
set_option linter.all false
set_option maxRecDepth 100000
set_option maxHeartbeats 4000000
namespace My
open PySem PySem.Spec PyProof.Rows L2 Gen DL
section
variable {P : Program} {w : World} {K : PySem.W.Frag} {mg : Str → Option Value} {base : Heap} { cBadPeople cBadCount cBadTotal cBadCoin cBadUnlike : Addr}
def s_d_l_coins_right : SpD := fun ds P _ => ∃ p : Int, ds = [.hand, .int p] ∧ 2 ≤ p ∧ p ≤ 5 ∧ P (.bl true)
theorem len_d_l_coins_right : ∀ ds P er, s_d_l_coins_right ds P er → ds.length = 2 := by rintro _ _ _ ⟨_, rfl, _⟩; rfl
theorem n0_l_coins_right : ∀ ds P er, s_d_l_coins_right ds P er → s_d_l_coins_right ds P noX := fun _ _ _ h => h
theorem ok_l_coins_right {f : Addr} {fd : FuncData} (F : Fun K "_law_coins_right" "_law_coins_right" s_l_coins_right f fd) (T : Txt K mg cBadPeople cBadCount cBadTotal cBadCoin cBadUnlike) : FnOk P w K mg base CX0 5 f fd ps_l_coins_right (spOf (s_d_l_coins_right)) := by
  obtain ⟨f_l_draw, fd_l_draw, F_l_draw, m_l_draw, b_l_draw⟩ := T.d_l_draw
  have G_l_draw : FnOk P w K mg base CX0 2 f_l_draw fd_l_draw ps_l_draw (spOf (s_d_l_draw)) := ok_l_draw F_l_draw T
  obtain ⟨f_greatest_coin, fd_greatest_coin, F_greatest_coin, m_greatest_coin, b_greatest_coin⟩ := T.d_greatest_coin
  have G_greatest_coin : FnOk P w K mg base (L2.CX P w) 4 f_greatest_coin fd_greatest_coin ps_greatest_coin (spOf (s_d_greatest_coin cBadTotal cBadPeople)) := ok_greatest_coin F_greatest_coin T
  obtain ⟨f_l_up, fd_l_up, F_l_up, m_l_up, b_l_up⟩ := T.d_l_up
  have G_l_up : FnOk P w K mg base CX0 1 f_l_up fd_l_up ps_l_up (spOf (s_d_l_up)) := ok_l_up F_l_up T
  obtain ⟨f_least_total_with, fd_least_total_with, F_least_total_with, m_least_total_with, b_least_total_with⟩ := T.d_least_total_with
  have G_least_total_with : FnOk P w K mg base (L2.CX P w) 4 f_least_total_with fd_least_total_with ps_least_total_with (spOf (s_d_least_total_with cBadCoin cBadPeople)) := ok_least_total_with F_least_total_with T
  obtain ⟨f_fewest_with, fd_fewest_with, F_fewest_with, m_fewest_with, b_fewest_with⟩ := T.d_fewest_with
  have G_fewest_with : FnOk P w K mg base (L2.CX P w) 4 f_fewest_with fd_fewest_with ps_fewest_with (spOf (s_d_fewest_with cBadCoin cBadPeople)) := ok_fewest_with F_fewest_with T
  obtain ⟨f_l_grown, fd_l_grown, F_l_grown, m_l_grown, b_l_grown⟩ := T.d_l_grown
  have G_l_grown : FnOk P w K mg base CX0 2 f_l_grown fd_l_grown ps_l_grown (spOf (s_d_l_grown)) := ok_l_grown F_l_grown T
  refine fn0_d (k := 4) (Oe := []) F sc_l_coins_right [] _ (len_d_l_coins_right) (by decide) (fun cdv A outer sh H E hr => (s_cons (s_set (i := 2) (by decide) sc_l_coins_right.nd rfl (Or.inr rfl) (d_op op_add4 l_add (toV (d_c (y := .int 4) (fun _ _ _ => .int _) pe_int)) (toV (d_call (by decide) G_l_draw (hr.mono (by decide)) (by rfl) m_l_draw F_l_draw.kp b_l_draw .nil (fun _ _ _ => .nil) pass0A (a_cons (d_var (i := 0) (by decide) (pv 0)) (a_cons (d_c (y := .int 9) (fun _ _ _ => .int _) pe_int) a_nil))))))
      (s_cons (s_set (i := 3) (by decide) sc_l_coins_right.nd rfl (Or.inl rfl) (ofF (f_lst (a_cons (d_tup a_nil) a_nil))))
      (s_cons (s_set (i := 4) (by decide) sc_l_coins_right.nd rfl (Or.inl rfl) (ofF (f_lst (a_cons (d_tup a_nil) a_nil))))
      (s_cons (s_for (vs := [5]) PassesOwn.never rfl (by decide) (pi_range1 (by rfl) T.n_range (pa_cons (d_var (i := 2) (by decide) (pv 2)) pa_nil)) (li_rng1 (own := false)) (pg_name (i := 5) sc_l_coins_right.nd rfl (Or.inl rfl)) (lg_name (i := 5) (by decide) (by decide))
      (s_cons (s_setLc (i := 4) (ownv := [("_law_row", 6)]) false (by decide) rfl sc_l_coins_right.nd rfl rfl (sw_true rfl rfl rfl (by decide +kernel)) (by decide) (pi_seq (d_call (by decide) G_l_grown (hr.mono (by decide)) (by rfl) m_l_grown F_l_grown.kp b_l_grown .nil (fun _ _ _ => .nil) pass0A (a_cons (d_var (i := 4) (by decide) (pv 4)) (a_cons (d_var (i := 1) (by decide) (pv 1)) a_nil)))) (li_seq (own := false)) (blkOk_by (N := nm_l_coins_right) (sc := defScope s_l_coins_right) (by decide +kernel)) (lg_name (i := 6) (by decide) (by decide)) (fun _ _ _ _ _ => (pg_name (i := 6) sc_l_coins_right.nd rfl (Or.inl rfl))) (fun _ _ _ _ _ => (ts_one (d_tcmp op_le l_le (toV (d_callB (cr_sumE rfl) c_sum (by rfl) T.n_sum (by decide +kernel) (v_cons (toV (d_var (i := 6) (by decide) (pv 6))) v_nil))) (toV (d_var (i := 2) (by decide) (pv 2))) (nomark _)))) (fun _ _ _ _ _ => (d_var (i := 6) (by decide) (pv 6))))
      (s_one (s_set (i := 3) (by decide) sc_l_coins_right.nd rfl (Or.inl rfl) (d_op op_add4 l_add (toV (d_var (i := 3) (by decide) (pv 3))) (toV (d_var (i := 4) (by decide) (pv 4))))) (fun _ z => z))))
      (s_cons (s_for (vs := [7]) PassesOwn.never rfl (by decide) (pi_range1 (by rfl) T.n_range (pa_cons (d_op op_add4 l_add (toV (d_var (i := 2) (by decide) (pv 2))) (toV (d_c (y := .int 1) (fun _ _ _ => .int _) pe_int))) pa_nil)) (li_rng1 (own := false)) (pg_name (i := 7) sc_l_coins_right.nd rfl (Or.inr rfl)) (lg_name (i := 7) (by decide) (by decide))
      (s_cons (s_set (i := 8) (by decide) sc_l_coins_right.nd rfl (Or.inl rfl) (d_callB (cr_max rfl) c_max (by rfl) T.n_max (by decide +kernel) (v_cons (toV (ofF (f_op op_cat l_cat (toV (ofF (f_lst (a_cons (d_c (y := .int 0) (fun _ _ _ => .int _) pe_int) a_nil)))) (toV (ofF (f_lc (ownv := [("_law_row", 6)]) rfl sc_l_coins_right.nd (by decide) (pi_seq (d_var (i := 3) (by decide) (pv 3))) (li_seq (own := false)) (blkOk_by (N := nm_l_coins_right) (sc := defScope s_l_coins_right) (by decide +kernel)) (lg_name (i := 6) (by decide) (by decide)) (fun _ _ _ _ _ => (pg_name (i := 6) sc_l_coins_right.nd rfl (Or.inl rfl))) (fun _ _ _ _ _ => (ts_one (PW.pt (d_and (d_tcmp (op_neD hr.units) l_ne (toV (d_var (i := 6) (by decide) (pv 6))) (toV (d_tup a_nil)) (nomark _)) (d_and1 (d_tcmp (op_eqD hr.units) l_eq (toV (d_callB (cr_sumE rfl) c_sum (by rfl) T.n_sum (by decide +kernel) (v_cons (toV (d_var (i := 6) (by decide) (pv 6))) v_nil))) (toV (d_var (i := 7) (by decide) (pv 7))) (nomark _))))))) (fun _ _ _ _ _ => (d_ix ix_seq l_ix (toV (d_var (i := 6) (by decide) (pv 6))) (toV (d_neg (d_c (y := .int 1) (fun _ _ _ => .int _) pe_int))) (fun _ _ => rfl))))))))) v_nil)))
      (s_one (s_if (d_tcmp (op_neD hr.units) l_ne (toV (d_call (by decide) G_greatest_coin (hr.mono (by decide)) (by rfl) m_greatest_coin F_greatest_coin.kp b_greatest_coin .nil (fun _ _ _ => .nil) (fun σ => L2.passAt takes0 σ) (a_cons (d_var (i := 7) (by decide) (pv 7)) (a_cons (d_var (i := 1) (by decide) (pv 1)) a_nil)))) (toV (d_var (i := 8) (by decide) (pv 8))) (nomark _)) (s_one (s_ret (O2 := []) (fun _ z => nomatch z) (d_c (y := .bl false) (fun _ _ _ => .bl _) pe_bl)) (fun _ z => z)) (s_nil (fun _ z => z))) (fun _ z => z))))
      (s_cons (s_for (vs := [9]) PassesOwn.never rfl (by decide) (pi_range2 (by rfl) T.n_range (pa_cons (d_c (y := .int 1) (fun _ _ _ => .int _) pe_int) (pa_cons (d_op op_add4 l_add (toV (d_call (by decide) G_l_up (hr.mono (by decide)) (by rfl) m_l_up F_l_up.kp b_l_up .nil (fun _ _ _ => .nil) pass0A (a_cons (d_var (i := 2) (by decide) (pv 2)) (a_cons (d_var (i := 1) (by decide) (pv 1)) a_nil)))) (toV (d_c (y := .int 1) (fun _ _ _ => .int _) pe_int))) pa_nil))) (li_rng2 (own := false)) (pg_name (i := 9) sc_l_coins_right.nd rfl (Or.inr rfl)) (lg_name (i := 9) (by decide) (by decide))
      (s_cons (s_setLc (i := 4) (ownv := [("_law_row", 6)]) false (by decide) rfl sc_l_coins_right.nd rfl rfl (sw_true rfl rfl rfl (by decide +kernel)) (by decide) (pi_seq (d_var (i := 3) (by decide) (pv 3))) (li_seq (own := false)) (blkOk_by (N := nm_l_coins_right) (sc := defScope s_l_coins_right) (by decide +kernel)) (lg_name (i := 6) (by decide) (by decide)) (fun _ _ _ _ _ => (pg_name (i := 6) sc_l_coins_right.nd rfl (Or.inl rfl))) (fun _ _ _ _ _ => (ts_one (d_tcmp op_in_seq l_in (toV (d_var (i := 9) (by decide) (pv 9))) (toV (d_var (i := 6) (by decide) (pv 6))) (by rfl)))) (fun _ _ _ _ _ => (d_var (i := 6) (by decide) (pv 6))))
      (s_cons (s_if (d_tcmp (op_neD hr.units) l_ne (toV (d_call (by decide) G_least_total_with (hr.mono (by decide)) (by rfl) m_least_total_with F_least_total_with.kp b_least_total_with .nil (fun _ _ _ => .nil) (fun σ => L2.passAt takes0 σ) (a_cons (d_var (i := 9) (by decide) (pv 9)) (a_cons (d_var (i := 1) (by decide) (pv 1)) a_nil)))) (toV (d_callB (cr_min rfl) c_min (by rfl) T.n_min (by decide +kernel) (v_cons (toV (ofF (f_lc (ownv := [("_law_row", 6)]) rfl sc_l_coins_right.nd (by decide) (pi_seq (d_var (i := 4) (by decide) (pv 4))) (li_seq (own := false)) (blkOk_by (N := nm_l_coins_right) (sc := defScope s_l_coins_right) (by decide +kernel)) (lg_name (i := 6) (by decide) (by decide)) (fun _ _ _ _ _ => (pg_name (i := 6) sc_l_coins_right.nd rfl (Or.inl rfl))) (fun _ _ _ _ _ => ts_nil) (fun _ _ _ _ _ => (d_callB (cr_sumE rfl) c_sum (by rfl) T.n_sum (by decide +kernel) (v_cons (toV (d_var (i := 6) (by decide) (pv 6))) v_nil)))))) v_nil))) (nomark _)) (s_one (s_ret (O2 := []) (fun _ z => nomatch z) (d_c (y := .bl false) (fun _ _ _ => .bl _) pe_bl)) (fun _ z => z)) (s_nil (fun _ z => z)))
      (s_one (s_if (d_tcmp (op_neD hr.units) l_ne (toV (d_call (by decide) G_fewest_with (hr.mono (by decide)) (by rfl) m_fewest_with F_fewest_with.kp b_fewest_with .nil (fun _ _ _ => .nil) (fun σ => L2.passAt takes0 σ) (a_cons (d_var (i := 9) (by decide) (pv 9)) (a_cons (d_var (i := 1) (by decide) (pv 1)) a_nil)))) (toV (d_callB (cr_min rfl) c_min (by rfl) T.n_min (by decide +kernel) (v_cons (toV (ofF (f_lc (ownv := [("_law_row", 6)]) rfl sc_l_coins_right.nd (by decide) (pi_seq (d_var (i := 4) (by decide) (pv 4))) (li_seq (own := false)) (blkOk_by (N := nm_l_coins_right) (sc := defScope s_l_coins_right) (by decide +kernel)) (lg_name (i := 6) (by decide) (by decide)) (fun _ _ _ _ _ => (pg_name (i := 6) sc_l_coins_right.nd rfl (Or.inl rfl))) (fun _ _ _ _ _ => ts_nil) (fun _ _ _ _ _ => (d_callB call_len3 c_len (by rfl) T.n_len (by decide +kernel) (v_cons (toV (d_var (i := 6) (by decide) (pv 6))) v_nil)))))) v_nil))) (nomark _)) (s_one (s_ret (O2 := []) (fun _ z => nomatch z) (d_c (y := .bl false) (fun _ _ _ => .bl _) pe_bl)) (fun _ z => z)) (s_nil (fun _ z => z))) (fun _ z => z)))))
      (s_one (s_ret (O2 := []) (fun _ z => nomatch z) (d_c (y := .bl true) (fun _ _ _ => .bl _) pe_bl)) (by decide))))))))) ?_ n0_l_coins_right
  rintro ds P ⟨p, rfl, p0, p1, q⟩
  have small : (1000000 : Nat) < sizeLine := by decide
  refine sq_cut fun R eR => ?_
  simp only [fLenSet, fMul3, dTr, tru, dAsgT, gS, dMake2, dCBK, fMinD, dCallG, fRepr, fEqS, dSq, dAsg, dNx, dExp, dRet, dRetN, dIfS, dBk, dCt, dAppend, dInsert, dRemove, dPopAt, dSetAt, dRaise, dRaise0, dRaiseL, dVar, dC, dOp, dT, dChain, dNotT, dAndT, dOrT, dAndV, dOrV, dNotV, dIf, dNeg, dNil, dCons, dCB, dTup, dLst, dCall, dCallV, dCallF, dFld, dNoPart, dPart, dSl, dIsSeq, dBM, dTM, dXf, dYes, fSub, fDiv, fMod, fPow, fAdd, fCat, fMul, fRep, fLt, fLe, fGt, fGe, fIs, fIsNot, fIx, fSl, fSlL, fLen, fList, fTuple, fMax2, fMin2, fMax, fMin, fAbs, fInt, fIsi, fIsiN, fIsiC, gN, gT, gT0, gTC, diSeq, diRng1, diRng2, diEnum, dstart, De.off, exD, suiteD, List.map_cons, List.map_nil, List.length_cons, List.length_nil, Nat.reduceAdd, Nat.reduceSub, List.replicate_succ, List.replicate_zero, List.getElem?_cons_zero, List.getElem?_cons_succ, List.set_cons_zero, List.set_cons_succ, Option.some.injEq, exists_eq_left', exists_eq_left, exists_and_left, D.int.injEq, D.bl.injEq, D.lst.injEq, D.tup.injEq, D.str.injEq, D.exc.injEq, List.cons.injEq, and_true, true_and, List.nil_append, List.cons_append, List.append_nil, reduceCtorEq, false_and, exists_false, or_false, false_or, or_true, true_or, and_false, Int.reduceNeg, decide_eq_true_eq, Bool.not_eq_true', decide_eq_false_iff_not, and_assoc, Nat.zero_le, List.length_map, Int.zero_add, Int.reduceLT, Int.reduceLE, Int.reducePow, Int.reduceToNat, Int.reduceAdd, Int.reduceMul, Int.reduceSub, Nat.reduceLeDiff, fEq_ints, fNe_ints, fEq_lstsI, fNe_lstsI, fEq_tupsI, fNe_tupsI, noLA_ints, fSum_lst, fSum_tup, fSorted_lst, fSorted_tup, ↓reduceIte, Bool.false_eq_true, Bool.true_eq_false, false_implies, true_implies, implies_true, forall_const, Bool.not_true, Bool.not_false, s_d_l_draw, sDraw]
  intro w0 w00 w9
  obtain ⟨w, hw⟩ : ∃ w : Nat, 4 + w0 = (w : Int) := ⟨(4 + w0).toNat, by omega⟩
  rw [hw]
  have w4 : 4 ≤ w := by omega
  have w12 : w ≤ 12 := by omega
  subst eR
  refine sq_cut fun R eR => ?_
  simp only [fLenSet, fMul3, dTr, tru, dAsgT, gS, dMake2, dCBK, fMinD, dCallG, fRepr, fEqS, dSq, dAsg, dNx, dExp, dRet, dRetN, dIfS, dBk, dCt, dAppend, dInsert, dRemove, dPopAt, dSetAt, dRaise, dRaise0, dRaiseL, dVar, dC, dOp, dT, dChain, dNotT, dAndT, dOrT, dAndV, dOrV, dNotV, dIf, dNeg, dNil, dCons, dCB, dTup, dLst, dCall, dCallV, dCallF, dFld, dNoPart, dPart, dSl, dIsSeq, dBM, dTM, dXf, dYes, fSub, fDiv, fMod, fPow, fAdd, fCat, fMul, fRep, fLt, fLe, fGt, fGe, fIs, fIsNot, fIx, fSl, fSlL, fLen, fList, fTuple, fMax2, fMin2, fMax, fMin, fAbs, fInt, fIsi, fIsiN, fIsiC, gN, gT, gT0, gTC, diSeq, diRng1, diRng2, diEnum, dstart, De.off, exD, suiteD, List.map_cons, List.map_nil, List.length_cons, List.length_nil, Nat.reduceAdd, Nat.reduceSub, List.replicate_succ, List.replicate_zero, List.getElem?_cons_zero, List.getElem?_cons_succ, List.set_cons_zero, List.set_cons_succ, Option.some.injEq, exists_eq_left', exists_eq_left, exists_and_left, D.int.injEq, D.bl.injEq, D.lst.injEq, D.tup.injEq, D.str.injEq, D.exc.injEq, List.cons.injEq, and_true, true_and, List.nil_append, List.cons_append, List.append_nil, reduceCtorEq, false_and, exists_false, or_false, false_or, or_true, true_or, and_false, Int.reduceNeg, decide_eq_true_eq, Bool.not_eq_true', decide_eq_false_iff_not, and_assoc, Nat.zero_le, List.length_map, Int.zero_add, Int.reduceLT, Int.reduceLE, Int.reducePow, Int.reduceToNat, Int.reduceAdd, Int.reduceMul, Int.reduceSub, Nat.reduceLeDiff, fEq_ints, fNe_ints, fEq_lstsI, fNe_lstsI, fEq_tupsI, fNe_tupsI, noLA_ints, fSum_lst, fSum_tup, fSorted_lst, fSorted_tup, ↓reduceIte, Bool.false_eq_true, Bool.true_eq_false, false_implies, true_implies, implies_true, forall_const, Bool.not_true, Bool.not_false]
  refine ⟨by decide, ?_⟩
  subst eR
  refine sq_cut fun R eR => ?_
  simp only [fLenSet, fMul3, dTr, tru, dAsgT, gS, dMake2, dCBK, fMinD, dCallG, fRepr, fEqS, dSq, dAsg, dNx, dExp, dRet, dRetN, dIfS, dBk, dCt, dAppend, dInsert, dRemove, dPopAt, dSetAt, dRaise, dRaise0, dRaiseL, dVar, dC, dOp, dT, dChain, dNotT, dAndT, dOrT, dAndV, dOrV, dNotV, dIf, dNeg, dNil, dCons, dCB, dTup, dLst, dCall, dCallV, dCallF, dFld, dNoPart, dPart, dSl, dIsSeq, dBM, dTM, dXf, dYes, fSub, fDiv, fMod, fPow, fAdd, fCat, fMul, fRep, fLt, fLe, fGt, fGe, fIs, fIsNot, fIx, fSl, fSlL, fLen, fList, fTuple, fMax2, fMin2, fMax, fMin, fAbs, fInt, fIsi, fIsiN, fIsiC, gN, gT, gT0, gTC, diSeq, diRng1, diRng2, diEnum, dstart, De.off, exD, suiteD, List.map_cons, List.map_nil, List.length_cons, List.length_nil, Nat.reduceAdd, Nat.reduceSub, List.replicate_succ, List.replicate_zero, List.getElem?_cons_zero, List.getElem?_cons_succ, List.set_cons_zero, List.set_cons_succ, Option.some.injEq, exists_eq_left', exists_eq_left, exists_and_left, D.int.injEq, D.bl.injEq, D.lst.injEq, D.tup.injEq, D.str.injEq, D.exc.injEq, List.cons.injEq, and_true, true_and, List.nil_append, List.cons_append, List.append_nil, reduceCtorEq, false_and, exists_false, or_false, false_or, or_true, true_or, and_false, Int.reduceNeg, decide_eq_true_eq, Bool.not_eq_true', decide_eq_false_iff_not, and_assoc, Nat.zero_le, List.length_map, Int.zero_add, Int.reduceLT, Int.reduceLE, Int.reducePow, Int.reduceToNat, Int.reduceAdd, Int.reduceMul, Int.reduceSub, Nat.reduceLeDiff, fEq_ints, fNe_ints, fEq_lstsI, fNe_lstsI, fEq_tupsI, fNe_tupsI, noLA_ints, fSum_lst, fSum_tup, fSorted_lst, fSorted_tup, ↓reduceIte, Bool.false_eq_true, Bool.true_eq_false, false_implies, true_implies, implies_true, forall_const, Bool.not_true, Bool.not_false]
  refine ⟨by decide, ?_⟩
  subst eR
  refine sq_cut fun R eR => ?_
  refine for_i (rangeD 0 w) (fun k δ => ∃ v5 v6 v7 v8 v9 : Option D, δ = [some .hand, some (.int p), some (.int w), some (.lst ((foundM p w k).map tupI)), some (.lst ((rowsM p w k).map tupI)), v5, v6, v7, v8, v9]) (fun Q q => by simp only [fLenSet, fMul3, dTr, tru, dAsgT, gS, dMake2, dCBK, fMinD, dCallG, fRepr, fEqS, dSq, dAsg, dNx, dExp, dRet, dRetN, dIfS, dBk, dCt, dAppend, dInsert, dRemove, dPopAt, dSetAt, dRaise, dRaise0, dRaiseL, dVar, dC, dOp, dT, dChain, dNotT, dAndT, dOrT, dAndV, dOrV, dNotV, dIf, dNeg, dNil, dCons, dCB, dTup, dLst, dCall, dCallV, dCallF, dFld, dNoPart, dPart, dSl, dIsSeq, dBM, dTM, dXf, dYes, fSub, fDiv, fMod, fPow, fAdd, fCat, fMul, fRep, fLt, fLe, fGt, fGe, fIs, fIsNot, fIx, fSl, fSlL, fLen, fList, fTuple, fMax2, fMin2, fMax, fMin, fAbs, fInt, fIsi, fIsiN, fIsiC, gN, gT, gT0, gTC, diSeq, diRng1, diRng2, diEnum, dstart, De.off, exD, suiteD, List.map_cons, List.map_nil, List.length_cons, List.length_nil, Nat.reduceAdd, Nat.reduceSub, List.replicate_succ, List.replicate_zero, List.getElem?_cons_zero, List.getElem?_cons_succ, List.set_cons_zero, List.set_cons_succ, Option.some.injEq, exists_eq_left', exists_eq_left, exists_and_left, D.int.injEq, D.bl.injEq, D.lst.injEq, D.tup.injEq, D.str.injEq, D.exc.injEq, List.cons.injEq, and_true, true_and, List.nil_append, List.cons_append, List.append_nil, reduceCtorEq, false_and, exists_false, or_false, false_or, or_true, true_or, and_false, Int.reduceNeg, decide_eq_true_eq, Bool.not_eq_true', decide_eq_false_iff_not, and_assoc, Nat.zero_le, List.length_map, Int.zero_add, Int.reduceLT, Int.reduceLE, Int.reducePow, Int.reduceToNat, Int.reduceAdd, Int.reduceMul, Int.reduceSub, Nat.reduceLeDiff, fEq_ints, fNe_ints, fEq_lstsI, fNe_lstsI, fEq_tupsI, fNe_tupsI, noLA_ints, fSum_lst, fSum_tup, fSorted_lst, fSorted_tup, ↓reduceIte, Bool.false_eq_true, Bool.true_eq_false, false_implies, true_implies, implies_true, forall_const, Bool.not_true, Bool.not_false]; exact ⟨by omega, by omega, q⟩) ⟨_, _, _, _, _, rfl⟩ ?_ ?_
  · rintro k δ' y N hN ⟨v5, v6, v7, v8, v9, rfl⟩ hy
    rw [rangeD_get] at hy
    split at hy <;> cases hy
    rename_i hk
    obtain ⟨l1, l2⟩ := rowsM_len (p := p) (w := w) p0 (by omega) (by omega) k
    have gl := grown_len (p := p) (rows := rowsM p w k) fun r hr => (((mem_rowsM (by omega)).mp hr).1.last p0).2
    simp only [gN, gT, gT0, gTC, wipeD, D.tup.injEq, D.lst.injEq, List.length_cons, List.length_nil, Nat.reduceAdd, List.cons.injEq, exists_eq_left', exists_eq_left, exists_and_left, and_true, true_and, and_assoc, List.set_cons_zero, List.set_cons_succ, reduceCtorEq, Int.zero_add]
    refine sq_cut fun R2 eR2 => ?_
    refine lc_open ?_
    simp only [fLenSet, fMul3, dTr, tru, dAsgT, gS, dMake2, dCBK, fMinD, dCallG, fRepr, fEqS, dSq, dAsg, dNx, dExp, dRet, dRetN, dIfS, dBk, dCt, dAppend, dInsert, dRemove, dPopAt, dSetAt, dRaise, dRaise0, dRaiseL, dVar, dC, dOp, dT, dChain, dNotT, dAndT, dOrT, dAndV, dOrV, dNotV, dIf, dNeg, dNil, dCons, dCB, dTup, dLst, dCall, dCallV, dCallF, dFld, dNoPart, dPart, dSl, dIsSeq, dBM, dTM, dXf, dYes, fSub, fDiv, fMod, fPow, fAdd, fCat, fMul, fRep, fLt, fLe, fGt, fGe, fIs, fIsNot, fIx, fSl, fSlL, fLen, fList, fTuple, fMax2, fMin2, fMax, fMin, fAbs, fInt, fIsi, fIsiN, fIsiC, gN, gT, gT0, gTC, diSeq, diRng1, diRng2, diEnum, dstart, De.off, exD, suiteD, List.map_cons, List.map_nil, List.length_cons, List.length_nil, Nat.reduceAdd, Nat.reduceSub, List.replicate_succ, List.replicate_zero, List.getElem?_cons_zero, List.getElem?_cons_succ, List.set_cons_zero, List.set_cons_succ, Option.some.injEq, exists_eq_left', exists_eq_left, exists_and_left, D.int.injEq, D.bl.injEq, D.lst.injEq, D.tup.injEq, D.str.injEq, D.exc.injEq, List.cons.injEq, and_true, true_and, List.nil_append, List.cons_append, List.append_nil, reduceCtorEq, false_and, exists_false, or_false, false_or, or_true, true_or, and_false, Int.reduceNeg, decide_eq_true_eq, Bool.not_eq_true', decide_eq_false_iff_not, and_assoc, Nat.zero_le, List.length_map, Int.zero_add, Int.reduceLT, Int.reduceLE, Int.reducePow, Int.reduceToNat, Int.reduceAdd, Int.reduceMul, Int.reduceSub, Nat.reduceLeDiff, fEq_ints, fNe_ints, fEq_lstsI, fNe_lstsI, fEq_tupsI, fNe_tupsI, noLA_ints, fSum_lst, fSum_tup, fSorted_lst, fSorted_tup, ↓reduceIte, Bool.false_eq_true, Bool.true_eq_false, false_implies, true_implies, implies_true, forall_const, Bool.not_true, Bool.not_false, s_d_l_grown]
    refine ⟨rowsM p w k, rfl, p0, p1, by omega, fun r hr => ?_, _, rfl, lcB_i (fun i acc => acc = (((grown p (rowsM p w k)).take i).filter fun (r : List Int) => decide (r.sum ≤ (w : Int))).map tupI) rfl ?_ ?_⟩
    · obtain ⟨g1, g2, g3⟩ := (mem_rowsM (by omega)).mp hr
      have := nxt_le p0 g1.pos
      exact ⟨g1, by omega, by omega⟩
    · rintro i acc x M hM rfl hx
      rw [List.getElem?_map] at hx
      obtain ⟨r, hr, rfl⟩ := Option.map_eq_some_iff.mp hx
      have hi := (List.getElem?_eq_some_iff.mp hr).1
      have hf := fl_step (f := fun (r : List Int) => decide (r.sum ≤ (w : Int))) hr
      have hlen := List.length_filter_le (fun (r : List Int) => decide (r.sum ≤ (w : Int))) ((grown p (rowsM p w k)).take i)
      rw [List.length_take] at hlen
      simp only [fLenSet, fMul3, dTr, tru, dAsgT, gS, dMake2, dCBK, fMinD, dCallG, fRepr, fEqS, dSq, dAsg, dNx, dExp, dRet, dRetN, dIfS, dBk, dCt, dAppend, dInsert, dRemove, dPopAt, dSetAt, dRaise, dRaise0, dRaiseL, dVar, dC, dOp, dT, dChain, dNotT, dAndT, dOrT, dAndV, dOrV, dNotV, dIf, dNeg, dNil, dCons, dCB, dTup, dLst, dCall, dCallV, dCallF, dFld, dNoPart, dPart, dSl, dIsSeq, dBM, dTM, dXf, dYes, fSub, fDiv, fMod, fPow, fAdd, fCat, fMul, fRep, fLt, fLe, fGt, fGe, fIs, fIsNot, fIx, fSl, fSlL, fLen, fList, fTuple, fMax2, fMin2, fMax, fMin, fAbs, fInt, fIsi, fIsiN, fIsiC, gN, gT, gT0, gTC, diSeq, diRng1, diRng2, diEnum, dstart, De.off, exD, suiteD, List.map_cons, List.map_nil, List.length_cons, List.length_nil, Nat.reduceAdd, Nat.reduceSub, List.replicate_succ, List.replicate_zero, List.getElem?_cons_zero, List.getElem?_cons_succ, List.set_cons_zero, List.set_cons_succ, Option.some.injEq, exists_eq_left', exists_eq_left, exists_and_left, D.int.injEq, D.bl.injEq, D.lst.injEq, D.tup.injEq, D.str.injEq, D.exc.injEq, List.cons.injEq, and_true, true_and, List.nil_append, List.cons_append, List.append_nil, reduceCtorEq, false_and, exists_false, or_false, false_or, or_true, true_or, and_false, Int.reduceNeg, decide_eq_true_eq, Bool.not_eq_true', decide_eq_false_iff_not, and_assoc, Nat.zero_le, List.length_map, Int.zero_add, Int.reduceLT, Int.reduceLE, Int.reducePow, Int.reduceToNat, Int.reduceAdd, Int.reduceMul, Int.reduceSub, Nat.reduceLeDiff, fEq_ints, fNe_ints, fEq_lstsI, fNe_lstsI, fEq_tupsI, fNe_tupsI, noLA_ints, fSum_lst, fSum_tup, fSorted_lst, fSorted_tup, ↓reduceIte, Bool.false_eq_true, Bool.true_eq_false, false_implies, true_implies, implies_true, forall_const, Bool.not_true, Bool.not_false, wipeD]
      split
      · rename_i h
        rw [decide_eq_true h, if_pos rfl] at hf
        exact ⟨by omega, hM _ (by rw [hf, List.map_append]; rfl)⟩
      · rename_i h
        rw [decide_eq_false h, if_neg (by decide), List.append_nil] at hf
        exact hM _ (by rw [hf])
    · rintro acc rfl
      rw [List.length_map, List.take_length]
      have fl := foundM_len (p := p) (w := w) p0 (by omega) (by omega) k
      have rl := (rowsM_len (p := p) (w := w) p0 (by omega) (by omega) (k + 1)).1
      have rl2 : ((grown p (rowsM p w k)).filter fun (r : List Int) => decide (r.sum ≤ (w : Int))).length ≤ 4096 := rl
      subst eR2
      simp only [fLenSet, fMul3, dTr, tru, dAsgT, gS, dMake2, dCBK, fMinD, dCallG, fRepr, fEqS, dSq, dAsg, dNx, dExp, dRet, dRetN, dIfS, dBk, dCt, dAppend, dInsert, dRemove, dPopAt, dSetAt, dRaise, dRaise0, dRaiseL, dVar, dC, dOp, dT, dChain, dNotT, dAndT, dOrT, dAndV, dOrV, dNotV, dIf, dNeg, dNil, dCons, dCB, dTup, dLst, dCall, dCallV, dCallF, dFld, dNoPart, dPart, dSl, dIsSeq, dBM, dTM, dXf, dYes, fSub, fDiv, fMod, fPow, fAdd, fCat, fMul, fRep, fLt, fLe, fGt, fGe, fIs, fIsNot, fIx, fSl, fSlL, fLen, fList, fTuple, fMax2, fMin2, fMax, fMin, fAbs, fInt, fIsi, fIsiN, fIsiC, gN, gT, gT0, gTC, diSeq, diRng1, diRng2, diEnum, dstart, De.off, exD, suiteD, List.map_cons, List.map_nil, List.length_cons, List.length_nil, Nat.reduceAdd, Nat.reduceSub, List.replicate_succ, List.replicate_zero, List.getElem?_cons_zero, List.getElem?_cons_succ, List.set_cons_zero, List.set_cons_succ, Option.some.injEq, exists_eq_left', exists_eq_left, exists_and_left, D.int.injEq, D.bl.injEq, D.lst.injEq, D.tup.injEq, D.str.injEq, D.exc.injEq, List.cons.injEq, and_true, true_and, List.nil_append, List.cons_append, List.append_nil, reduceCtorEq, false_and, exists_false, or_false, false_or, or_true, true_or, and_false, Int.reduceNeg, decide_eq_true_eq, Bool.not_eq_true', decide_eq_false_iff_not, and_assoc, Nat.zero_le, List.length_map, Int.zero_add, Int.reduceLT, Int.reduceLE, Int.reducePow, Int.reduceToNat, Int.reduceAdd, Int.reduceMul, Int.reduceSub, Nat.reduceLeDiff, fEq_ints, fNe_ints, fEq_lstsI, fNe_lstsI, fEq_tupsI, fNe_tupsI, noLA_ints, fSum_lst, fSum_tup, fSorted_lst, fSorted_tup, ↓reduceIte, Bool.false_eq_true, Bool.true_eq_false, false_implies, true_implies, implies_true, forall_const, Bool.not_true, Bool.not_false]
      exact ⟨by omega, hN _ ⟨_, _, _, _, _, by rw [foundM, rowsM, List.map_append]⟩⟩
  · rintro δ' ⟨v5, v6, v7, v8, v9, rfl⟩
    rw [rangeD_length]
    subst eR
    dsimp only
    refine sq_cut fun R eR => ?_
    refine for_i (rangeD 0 (w + 1)) (fun k δ => ∃ v5 v6 v7 v8 v9 : Option D, δ = [some .hand, some (.int p), some (.int w), some (.lst ((foundM p w w).map tupI)), some (.lst ((rowsM p w w).map tupI)), v5, v6, v7, v8, v9]) (fun Q q => by simp only [fLenSet, fMul3, dTr, tru, dAsgT, gS, dMake2, dCBK, fMinD, dCallG, fRepr, fEqS, dSq, dAsg, dNx, dExp, dRet, dRetN, dIfS, dBk, dCt, dAppend, dInsert, dRemove, dPopAt, dSetAt, dRaise, dRaise0, dRaiseL, dVar, dC, dOp, dT, dChain, dNotT, dAndT, dOrT, dAndV, dOrV, dNotV, dIf, dNeg, dNil, dCons, dCB, dTup, dLst, dCall, dCallV, dCallF, dFld, dNoPart, dPart, dSl, dIsSeq, dBM, dTM, dXf, dYes, fSub, fDiv, fMod, fPow, fAdd, fCat, fMul, fRep, fLt, fLe, fGt, fGe, fIs, fIsNot, fIx, fSl, fSlL, fLen, fList, fTuple, fMax2, fMin2, fMax, fMin, fAbs, fInt, fIsi, fIsiN, fIsiC, gN, gT, gT0, gTC, diSeq, diRng1, diRng2, diEnum, dstart, De.off, exD, suiteD, List.map_cons, List.map_nil, List.length_cons, List.length_nil, Nat.reduceAdd, Nat.reduceSub, List.replicate_succ, List.replicate_zero, List.getElem?_cons_zero, List.getElem?_cons_succ, List.set_cons_zero, List.set_cons_succ, Option.some.injEq, exists_eq_left', exists_eq_left, exists_and_left, D.int.injEq, D.bl.injEq, D.lst.injEq, D.tup.injEq, D.str.injEq, D.exc.injEq, List.cons.injEq, and_true, true_and, List.nil_append, List.cons_append, List.append_nil, reduceCtorEq, false_and, exists_false, or_false, false_or, or_true, true_or, and_false, Int.reduceNeg, decide_eq_true_eq, Bool.not_eq_true', decide_eq_false_iff_not, and_assoc, Nat.zero_le, List.length_map, Int.zero_add, Int.reduceLT, Int.reduceLE, Int.reducePow, Int.reduceToNat, Int.reduceAdd, Int.reduceMul, Int.reduceSub, Nat.reduceLeDiff, fEq_ints, fNe_ints, fEq_lstsI, fNe_lstsI, fEq_tupsI, fNe_tupsI, noLA_ints, fSum_lst, fSum_tup, fSorted_lst, fSorted_tup, ↓reduceIte, Bool.false_eq_true, Bool.true_eq_false, false_implies, true_implies, implies_true, forall_const, Bool.not_true, Bool.not_false]; exact ⟨by omega, by omega, by rw [show ((w : Int) + 1).toNat = w + 1 by omega]; exact q⟩) ⟨_, _, _, _, _, rfl⟩ ?_ ?_
    · rintro k δ' y N hN ⟨v5, v6, v7, v8, v9, rfl⟩ hy
      rw [rangeD_get] at hy
      split at hy <;> cases hy
      rename_i hk
      simp only [gN, gT, gT0, gTC, wipeD, D.tup.injEq, D.lst.injEq, List.length_cons, List.length_nil, Nat.reduceAdd, List.cons.injEq, exists_eq_left', exists_eq_left, exists_and_left, and_true, true_and, and_assoc, List.set_cons_zero, List.set_cons_succ, reduceCtorEq, Int.zero_add]
      refine sq_cut fun R2 eR2 => ?_
      simp only [fLenSet, fMul3, dTr, tru, dAsgT, gS, dMake2, dCBK, fMinD, dCallG, fRepr, fEqS, dSq, dAsg, dNx, dExp, dRet, dRetN, dIfS, dBk, dCt, dAppend, dInsert, dRemove, dPopAt, dSetAt, dRaise, dRaise0, dRaiseL, dVar, dC, dOp, dT, dChain, dNotT, dAndT, dOrT, dAndV, dOrV, dNotV, dIf, dNeg, dNil, dCons, dCB, dTup, dLst, dCall, dCallV, dCallF, dFld, dNoPart, dPart, dSl, dIsSeq, dBM, dTM, dXf, dYes, fSub, fDiv, fMod, fPow, fAdd, fCat, fMul, fRep, fLt, fLe, fGt, fGe, fIs, fIsNot, fIx, fSl, fSlL, fLen, fList, fTuple, fMax2, fMin2, fMax, fMin, fAbs, fInt, fIsi, fIsiN, fIsiC, gN, gT, gT0, gTC, diSeq, diRng1, diRng2, diEnum, dstart, De.off, exD, suiteD, List.map_cons, List.map_nil, List.length_cons, List.length_nil, Nat.reduceAdd, Nat.reduceSub, List.replicate_succ, List.replicate_zero, List.getElem?_cons_zero, List.getElem?_cons_succ, List.set_cons_zero, List.set_cons_succ, Option.some.injEq, exists_eq_left', exists_eq_left, exists_and_left, D.int.injEq, D.bl.injEq, D.lst.injEq, D.tup.injEq, D.str.injEq, D.exc.injEq, List.cons.injEq, and_true, true_and, List.nil_append, List.cons_append, List.append_nil, reduceCtorEq, false_and, exists_false, or_false, false_or, or_true, true_or, and_false, Int.reduceNeg, decide_eq_true_eq, Bool.not_eq_true', decide_eq_false_iff_not, and_assoc, Nat.zero_le, List.length_map, Int.zero_add, Int.reduceLT, Int.reduceLE, Int.reducePow, Int.reduceToNat, Int.reduceAdd, Int.reduceMul, Int.reduceSub, Nat.reduceLeDiff, fEq_ints, fNe_ints, fEq_lstsI, fNe_lstsI, fEq_tupsI, fNe_tupsI, noLA_ints, fSum_lst, fSum_tup, fSorted_lst, fSorted_tup, ↓reduceIte, Bool.false_eq_true, Bool.true_eq_false, false_implies, true_implies, implies_true, forall_const, Bool.not_true, Bool.not_false]
      refine ⟨by omega, ?_⟩
      have fl := foundM_len (p := p) (w := w) p0 (by omega) (by omega) w
      refine lc_i ((foundM p w w).map tupI) (fun i acc => acc = ((((foundM p w w).take i).filter fun (r : List Int) => decide (r ≠ []) && decide (r.sum = (k : Int))).map fun (r : List Int) => r.getLastD 1).map D.int) (fun Q q => by simp only [fLenSet, fMul3, dTr, tru, dAsgT, gS, dMake2, dCBK, fMinD, dCallG, fRepr, fEqS, dSq, dAsg, dNx, dExp, dRet, dRetN, dIfS, dBk, dCt, dAppend, dInsert, dRemove, dPopAt, dSetAt, dRaise, dRaise0, dRaiseL, dVar, dC, dOp, dT, dChain, dNotT, dAndT, dOrT, dAndV, dOrV, dNotV, dIf, dNeg, dNil, dCons, dCB, dTup, dLst, dCall, dCallV, dCallF, dFld, dNoPart, dPart, dSl, dIsSeq, dBM, dTM, dXf, dYes, fSub, fDiv, fMod, fPow, fAdd, fCat, fMul, fRep, fLt, fLe, fGt, fGe, fIs, fIsNot, fIx, fSl, fSlL, fLen, fList, fTuple, fMax2, fMin2, fMax, fMin, fAbs, fInt, fIsi, fIsiN, fIsiC, gN, gT, gT0, gTC, diSeq, diRng1, diRng2, diEnum, dstart, De.off, exD, suiteD, List.map_cons, List.map_nil, List.length_cons, List.length_nil, Nat.reduceAdd, Nat.reduceSub, List.replicate_succ, List.replicate_zero, List.getElem?_cons_zero, List.getElem?_cons_succ, List.set_cons_zero, List.set_cons_succ, Option.some.injEq, exists_eq_left', exists_eq_left, exists_and_left, D.int.injEq, D.bl.injEq, D.lst.injEq, D.tup.injEq, D.str.injEq, D.exc.injEq, List.cons.injEq, and_true, true_and, List.nil_append, List.cons_append, List.append_nil, reduceCtorEq, false_and, exists_false, or_false, false_or, or_true, true_or, and_false, Int.reduceNeg, decide_eq_true_eq, Bool.not_eq_true', decide_eq_false_iff_not, and_assoc, Nat.zero_le, List.length_map, Int.zero_add, Int.reduceLT, Int.reduceLE, Int.reducePow, Int.reduceToNat, Int.reduceAdd, Int.reduceMul, Int.reduceSub, Nat.reduceLeDiff, fEq_ints, fNe_ints, fEq_lstsI, fNe_lstsI, fEq_tupsI, fNe_tupsI, noLA_ints, fSum_lst, fSum_tup, fSorted_lst, fSorted_tup, ↓reduceIte, Bool.false_eq_true, Bool.true_eq_false, false_implies, true_implies, implies_true, forall_const, Bool.not_true, Bool.not_false]; exact ⟨_, rfl, q⟩) rfl ?_ ?_
      · rintro i acc x M hM rfl hx
        rw [List.getElem?_map] at hx
        obtain ⟨r, hr, rfl⟩ := Option.map_eq_some_iff.mp hx
        have hi := (List.getElem?_eq_some_iff.mp hr).1
        have hf := fl_step (f := fun (r : List Int) => decide (r ≠ []) && decide (r.sum = (k : Int))) hr
        have hlen := List.length_filter_le (fun (r : List Int) => decide (r ≠ []) && decide (r.sum = (k : Int))) ((foundM p w w).take i)
        rw [List.length_take] at hlen
        simp only [fLenSet, fMul3, dTr, tru, dAsgT, gS, dMake2, dCBK, fMinD, dCallG, fRepr, fEqS, dSq, dAsg, dNx, dExp, dRet, dRetN, dIfS, dBk, dCt, dAppend, dInsert, dRemove, dPopAt, dSetAt, dRaise, dRaise0, dRaiseL, dVar, dC, dOp, dT, dChain, dNotT, dAndT, dOrT, dAndV, dOrV, dNotV, dIf, dNeg, dNil, dCons, dCB, dTup, dLst, dCall, dCallV, dCallF, dFld, dNoPart, dPart, dSl, dIsSeq, dBM, dTM, dXf, dYes, fSub, fDiv, fMod, fPow, fAdd, fCat, fMul, fRep, fLt, fLe, fGt, fGe, fIs, fIsNot, fIx, fSl, fSlL, fLen, fList, fTuple, fMax2, fMin2, fMax, fMin, fAbs, fInt, fIsi, fIsiN, fIsiC, gN, gT, gT0, gTC, diSeq, diRng1, diRng2, diEnum, dstart, De.off, exD, suiteD, List.map_cons, List.map_nil, List.length_cons, List.length_nil, Nat.reduceAdd, Nat.reduceSub, List.replicate_succ, List.replicate_zero, List.getElem?_cons_zero, List.getElem?_cons_succ, List.set_cons_zero, List.set_cons_succ, Option.some.injEq, exists_eq_left', exists_eq_left, exists_and_left, D.int.injEq, D.bl.injEq, D.lst.injEq, D.tup.injEq, D.str.injEq, D.exc.injEq, List.cons.injEq, and_true, true_and, List.nil_append, List.cons_append, List.append_nil, reduceCtorEq, false_and, exists_false, or_false, false_or, or_true, true_or, and_false, Int.reduceNeg, decide_eq_true_eq, Bool.not_eq_true', decide_eq_false_iff_not, and_assoc, Nat.zero_le, List.length_map, Int.zero_add, Int.reduceLT, Int.reduceLE, Int.reducePow, Int.reduceToNat, Int.reduceAdd, Int.reduceMul, Int.reduceSub, Nat.reduceLeDiff, fEq_ints, fNe_ints, fEq_lstsI, fNe_lstsI, fEq_tupsI, fNe_tupsI, noLA_ints, fSum_lst, fSum_tup, fSorted_lst, fSorted_tup, ↓reduceIte, Bool.false_eq_true, Bool.true_eq_false, false_implies, true_implies, implies_true, forall_const, Bool.not_true, Bool.not_false, wipeD]
        refine (fNe_tupsI (ns := r) (ms := [])).mpr ?_
        simp only [fLenSet, fMul3, dTr, tru, dAsgT, gS, dMake2, dCBK, fMinD, dCallG, fRepr, fEqS, dSq, dAsg, dNx, dExp, dRet, dRetN, dIfS, dBk, dCt, dAppend, dInsert, dRemove, dPopAt, dSetAt, dRaise, dRaise0, dRaiseL, dVar, dC, dOp, dT, dChain, dNotT, dAndT, dOrT, dAndV, dOrV, dNotV, dIf, dNeg, dNil, dCons, dCB, dTup, dLst, dCall, dCallV, dCallF, dFld, dNoPart, dPart, dSl, dIsSeq, dBM, dTM, dXf, dYes, fSub, fDiv, fMod, fPow, fAdd, fCat, fMul, fRep, fLt, fLe, fGt, fGe, fIs, fIsNot, fIx, fSl, fSlL, fLen, fList, fTuple, fMax2, fMin2, fMax, fMin, fAbs, fInt, fIsi, fIsiN, fIsiC, gN, gT, gT0, gTC, diSeq, diRng1, diRng2, diEnum, dstart, De.off, exD, suiteD, List.map_cons, List.map_nil, List.length_cons, List.length_nil, Nat.reduceAdd, Nat.reduceSub, List.replicate_succ, List.replicate_zero, List.getElem?_cons_zero, List.getElem?_cons_succ, List.set_cons_zero, List.set_cons_succ, Option.some.injEq, exists_eq_left', exists_eq_left, exists_and_left, D.int.injEq, D.bl.injEq, D.lst.injEq, D.tup.injEq, D.str.injEq, D.exc.injEq, List.cons.injEq, and_true, true_and, List.nil_append, List.cons_append, List.append_nil, reduceCtorEq, false_and, exists_false, or_false, false_or, or_true, true_or, and_false, Int.reduceNeg, decide_eq_true_eq, Bool.not_eq_true', decide_eq_false_iff_not, and_assoc, Nat.zero_le, List.length_map, Int.zero_add, Int.reduceLT, Int.reduceLE, Int.reducePow, Int.reduceToNat, Int.reduceAdd, Int.reduceMul, Int.reduceSub, Nat.reduceLeDiff, fEq_ints, fNe_ints, fEq_lstsI, fNe_lstsI, fEq_tupsI, fNe_tupsI, noLA_ints, fSum_lst, fSum_tup, fSorted_lst, fSorted_tup, ↓reduceIte, Bool.false_eq_true, Bool.true_eq_false, false_implies, true_implies, implies_true, forall_const, Bool.not_true, Bool.not_false]
        split
        · rename_i h
          split
          · rename_i h2
            rw [decide_eq_true h, decide_eq_true h2, Bool.and_self, if_pos rfl] at hf
            exact ⟨_, atI_end h, by omega, hM _ (by rw [hf]; simp)⟩
          · rename_i h2
            rw [decide_eq_false h2, Bool.and_false, if_neg (by decide), List.append_nil] at hf
            exact hM _ (by rw [hf])
        · rename_i h
          rw [decide_eq_false h, Bool.false_and, if_neg (by decide), List.append_nil] at hf
          exact hM _ (by rw [hf])
      · rintro acc rfl
        rw [List.length_map, List.take_length]
        simp only [fLenSet, fMul3, dTr, tru, dAsgT, gS, dMake2, dCBK, fMinD, dCallG, fRepr, fEqS, dSq, dAsg, dNx, dExp, dRet, dRetN, dIfS, dBk, dCt, dAppend, dInsert, dRemove, dPopAt, dSetAt, dRaise, dRaise0, dRaiseL, dVar, dC, dOp, dT, dChain, dNotT, dAndT, dOrT, dAndV, dOrV, dNotV, dIf, dNeg, dNil, dCons, dCB, dTup, dLst, dCall, dCallV, dCallF, dFld, dNoPart, dPart, dSl, dIsSeq, dBM, dTM, dXf, dYes, fSub, fDiv, fMod, fPow, fAdd, fCat, fMul, fRep, fLt, fLe, fGt, fGe, fIs, fIsNot, fIx, fSl, fSlL, fLen, fList, fTuple, fMax2, fMin2, fMax, fMin, fAbs, fInt, fIsi, fIsiN, fIsiC, gN, gT, gT0, gTC, diSeq, diRng1, diRng2, diEnum, dstart, De.off, exD, suiteD, List.map_cons, List.map_nil, List.length_cons, List.length_nil, Nat.reduceAdd, Nat.reduceSub, List.replicate_succ, List.replicate_zero, List.getElem?_cons_zero, List.getElem?_cons_succ, List.set_cons_zero, List.set_cons_succ, Option.some.injEq, exists_eq_left', exists_eq_left, exists_and_left, D.int.injEq, D.bl.injEq, D.lst.injEq, D.tup.injEq, D.str.injEq, D.exc.injEq, List.cons.injEq, and_true, true_and, List.nil_append, List.cons_append, List.append_nil, reduceCtorEq, false_and, exists_false, or_false, false_or, or_true, true_or, and_false, Int.reduceNeg, decide_eq_true_eq, Bool.not_eq_true', decide_eq_false_iff_not, and_assoc, Nat.zero_le, List.length_map, Int.zero_add, Int.reduceLT, Int.reduceLE, Int.reducePow, Int.reduceToNat, Int.reduceAdd, Int.reduceMul, Int.reduceSub, Nat.reduceLeDiff, fEq_ints, fNe_ints, fEq_lstsI, fNe_lstsI, fEq_tupsI, fNe_tupsI, noLA_ints, fSum_lst, fSum_tup, fSorted_lst, fSorted_tup, ↓reduceIte, Bool.false_eq_true, Bool.true_eq_false, false_implies, true_implies, implies_true, forall_const, Bool.not_true, Bool.not_false]
        obtain ⟨L, hL⟩ : ∃ L : List Int, L = ((foundM p w w).filter fun (r : List Int) => decide (r ≠ []) && decide (r.sum = (k : Int))).map fun (r : List Int) => r.getLastD 1 := ⟨_, rfl⟩
        have hmem : ∀ m : Int, m ∈ L ↔ ∃ r, Row p r ∧ r.sum ≤ w ∧ r ≠ [] ∧ r.sum = k ∧ r.getLastD 1 = m := fun m => by
          rw [hL, List.mem_map]
          constructor
          · rintro ⟨r, h1, h2⟩
            obtain ⟨h3, h4⟩ := List.mem_filter.mp h1
            obtain ⟨h5, h6⟩ := mem_all.mp h3
            rw [Bool.and_eq_true, decide_eq_true_eq, decide_eq_true_eq] at h4
            exact ⟨r, h5, h6, h4.1, h4.2, h2⟩
          · rintro ⟨r, h1, h2, h3, h4, h5⟩
            exact ⟨r, List.mem_filter.mpr ⟨mem_all.mpr ⟨h1, h2⟩, by rw [decide_eq_true h3, decide_eq_true h4]; rfl⟩, h5⟩
        have hlen := List.length_filter_le (fun (r : List Int) => decide (r ≠ []) && decide (r.sum = (k : Int))) (foundM p w w)
        rw [← hL]
        refine ⟨by omega, 0 :: L, rfl, by simp, fun m h1 h2 => ?_⟩
        have e : upI (k : Int) p = m := by
          have z0 : 0 ≤ m := h2 0 List.mem_cons_self
          by_cases ek : k = 0
          · subst ek
            have u0 : upI ((0 : Nat) : Int) p = 0 := by
              unfold upI
              exact Int.ediv_eq_zero_of_lt (by omega) (by omega)
            rcases List.mem_cons.mp h1 with rfl | h1
            · exact u0
            · obtain ⟨r, g1, _, g3, g4, _⟩ := (hmem m).mp h1
              have := g1.len
              have := List.length_pos_iff.mpr g3
              omega
          · obtain ⟨r, g1, g2, g3, g4⟩ := last_row (p := p) (t := (k : Int)) p0 (by omega)
            have a := h2 _ (List.mem_cons_of_mem _ ((hmem _).mpr ⟨r, g1, by omega, g2, g3, rfl⟩))
            have b := (g1.last p0).2
            rcases List.mem_cons.mp h1 with rfl | h1
            · omega
            · obtain ⟨q, f1, _, f3, f4, f5⟩ := (hmem m).mp h1
              have := last_top p0 f1 f3 f4
              omega
        subst eR2
        simp only [fLenSet, fMul3, dTr, tru, dAsgT, gS, dMake2, dCBK, fMinD, dCallG, fRepr, fEqS, dSq, dAsg, dNx, dExp, dRet, dRetN, dIfS, dBk, dCt, dAppend, dInsert, dRemove, dPopAt, dSetAt, dRaise, dRaise0, dRaiseL, dVar, dC, dOp, dT, dChain, dNotT, dAndT, dOrT, dAndV, dOrV, dNotV, dIf, dNeg, dNil, dCons, dCB, dTup, dLst, dCall, dCallV, dCallF, dFld, dNoPart, dPart, dSl, dIsSeq, dBM, dTM, dXf, dYes, fSub, fDiv, fMod, fPow, fAdd, fCat, fMul, fRep, fLt, fLe, fGt, fGe, fIs, fIsNot, fIx, fSl, fSlL, fLen, fList, fTuple, fMax2, fMin2, fMax, fMin, fAbs, fInt, fIsi, fIsiN, fIsiC, gN, gT, gT0, gTC, diSeq, diRng1, diRng2, diEnum, dstart, De.off, exD, suiteD, List.map_cons, List.map_nil, List.length_cons, List.length_nil, Nat.reduceAdd, Nat.reduceSub, List.replicate_succ, List.replicate_zero, List.getElem?_cons_zero, List.getElem?_cons_succ, List.set_cons_zero, List.set_cons_succ, Option.some.injEq, exists_eq_left', exists_eq_left, exists_and_left, D.int.injEq, D.bl.injEq, D.lst.injEq, D.tup.injEq, D.str.injEq, D.exc.injEq, List.cons.injEq, and_true, true_and, List.nil_append, List.cons_append, List.append_nil, reduceCtorEq, false_and, exists_false, or_false, false_or, or_true, true_or, and_false, Int.reduceNeg, decide_eq_true_eq, Bool.not_eq_true', decide_eq_false_iff_not, and_assoc, Nat.zero_le, List.length_map, Int.zero_add, Int.reduceLT, Int.reduceLE, Int.reducePow, Int.reduceToNat, Int.reduceAdd, Int.reduceMul, Int.reduceSub, Nat.reduceLeDiff, fEq_ints, fNe_ints, fEq_lstsI, fNe_lstsI, fEq_tupsI, fNe_tupsI, noLA_ints, fSum_lst, fSum_tup, fSorted_lst, fSorted_tup, ↓reduceIte, Bool.false_eq_true, Bool.true_eq_false, false_implies, true_implies, implies_true, forall_const, Bool.not_true, Bool.not_false]
        refine coin_ok p0 p1 (by omega) (by omega) ?_
        simp only [fLenSet, fMul3, dTr, tru, dAsgT, gS, dMake2, dCBK, fMinD, dCallG, fRepr, fEqS, dSq, dAsg, dNx, dExp, dRet, dRetN, dIfS, dBk, dCt, dAppend, dInsert, dRemove, dPopAt, dSetAt, dRaise, dRaise0, dRaiseL, dVar, dC, dOp, dT, dChain, dNotT, dAndT, dOrT, dAndV, dOrV, dNotV, dIf, dNeg, dNil, dCons, dCB, dTup, dLst, dCall, dCallV, dCallF, dFld, dNoPart, dPart, dSl, dIsSeq, dBM, dTM, dXf, dYes, fSub, fDiv, fMod, fPow, fAdd, fCat, fMul, fRep, fLt, fLe, fGt, fGe, fIs, fIsNot, fIx, fSl, fSlL, fLen, fList, fTuple, fMax2, fMin2, fMax, fMin, fAbs, fInt, fIsi, fIsiN, fIsiC, gN, gT, gT0, gTC, diSeq, diRng1, diRng2, diEnum, dstart, De.off, exD, suiteD, List.map_cons, List.map_nil, List.length_cons, List.length_nil, Nat.reduceAdd, Nat.reduceSub, List.replicate_succ, List.replicate_zero, List.getElem?_cons_zero, List.getElem?_cons_succ, List.set_cons_zero, List.set_cons_succ, Option.some.injEq, exists_eq_left', exists_eq_left, exists_and_left, D.int.injEq, D.bl.injEq, D.lst.injEq, D.tup.injEq, D.str.injEq, D.exc.injEq, List.cons.injEq, and_true, true_and, List.nil_append, List.cons_append, List.append_nil, reduceCtorEq, false_and, exists_false, or_false, false_or, or_true, true_or, and_false, Int.reduceNeg, decide_eq_true_eq, Bool.not_eq_true', decide_eq_false_iff_not, and_assoc, Nat.zero_le, List.length_map, Int.zero_add, Int.reduceLT, Int.reduceLE, Int.reducePow, Int.reduceToNat, Int.reduceAdd, Int.reduceMul, Int.reduceSub, Nat.reduceLeDiff, fEq_ints, fNe_ints, fEq_lstsI, fNe_lstsI, fEq_tupsI, fNe_tupsI, noLA_ints, fSum_lst, fSum_tup, fSorted_lst, fSorted_tup, ↓reduceIte, Bool.false_eq_true, Bool.true_eq_false, false_implies, true_implies, implies_true, forall_const, Bool.not_true, Bool.not_false]
        rw [if_neg (by omega)]
        exact hN _ ⟨_, _, _, _, _, rfl⟩
    · rintro δ' ⟨v5, v6, v7, v8, v9, rfl⟩
      subst eR
      dsimp only
      refine sq_cut fun R eR => ?_
      refine for_open ?_
      simp only [fLenSet, fMul3, dTr, tru, dAsgT, gS, dMake2, dCBK, fMinD, dCallG, fRepr, fEqS, dSq, dAsg, dNx, dExp, dRet, dRetN, dIfS, dBk, dCt, dAppend, dInsert, dRemove, dPopAt, dSetAt, dRaise, dRaise0, dRaiseL, dVar, dC, dOp, dT, dChain, dNotT, dAndT, dOrT, dAndV, dOrV, dNotV, dIf, dNeg, dNil, dCons, dCB, dTup, dLst, dCall, dCallV, dCallF, dFld, dNoPart, dPart, dSl, dIsSeq, dBM, dTM, dXf, dYes, fSub, fDiv, fMod, fPow, fAdd, fCat, fMul, fRep, fLt, fLe, fGt, fGe, fIs, fIsNot, fIx, fSl, fSlL, fLen, fList, fTuple, fMax2, fMin2, fMax, fMin, fAbs, fInt, fIsi, fIsiN, fIsiC, gN, gT, gT0, gTC, diSeq, diRng1, diRng2, diEnum, dstart, De.off, exD, suiteD, List.map_cons, List.map_nil, List.length_cons, List.length_nil, Nat.reduceAdd, Nat.reduceSub, List.replicate_succ, List.replicate_zero, List.getElem?_cons_zero, List.getElem?_cons_succ, List.set_cons_zero, List.set_cons_succ, Option.some.injEq, exists_eq_left', exists_eq_left, exists_and_left, D.int.injEq, D.bl.injEq, D.lst.injEq, D.tup.injEq, D.str.injEq, D.exc.injEq, List.cons.injEq, and_true, true_and, List.nil_append, List.cons_append, List.append_nil, reduceCtorEq, false_and, exists_false, or_false, false_or, or_true, true_or, and_false, Int.reduceNeg, decide_eq_true_eq, Bool.not_eq_true', decide_eq_false_iff_not, and_assoc, Nat.zero_le, List.length_map, Int.zero_add, Int.reduceLT, Int.reduceLE, Int.reducePow, Int.reduceToNat, Int.reduceAdd, Int.reduceMul, Int.reduceSub, Nat.reduceLeDiff, fEq_ints, fNe_ints, fEq_lstsI, fNe_lstsI, fEq_tupsI, fNe_tupsI, noLA_ints, fSum_lst, fSum_tup, fSorted_lst, fSorted_tup, ↓reduceIte, Bool.false_eq_true, Bool.true_eq_false, false_implies, true_implies, implies_true, forall_const, Bool.not_true, Bool.not_false, s_d_l_up]
      have uw : upI w p ≤ w := by
        by_cases z : upI w p ≤ 0
        · omega
        · have a := (le_up (c := upI w p) (t := w) p0).mp (Int.le_refl _)
          have b : 1 * (upI w p - 1) ≤ p * (upI w p - 1) := Int.mul_le_mul_of_nonneg_right (by omega) (by omega)
          omega
      have uw0 : 0 ≤ upI w p := Int.ediv_nonneg (by omega) (by omega)
      have fl := foundM_len (p := p) (w := w) p0 (by omega) (by omega) w
      refine ⟨by omega, by omega, by omega, by omega, forB_i (fun k δ => ∃ v4 v5 v6 v7 v8 v9 : Option D, δ = [some .hand, some (.int p), some (.int w), some (.lst ((foundM p w w).map tupI)), v4, v5, v6, v7, v8, v9]) ⟨_, _, _, _, _, _, rfl⟩ ?_ ?_⟩
      · rintro k δ' y N hN ⟨v4, v5, v6, v7, v8, v9, rfl⟩ hy
        rw [rangeD_get] at hy
        split at hy <;> cases hy
        rename_i hk
        obtain ⟨c, hc⟩ : ∃ c : Int, c = 1 + k := ⟨_, rfl⟩
        have c1 : 1 ≤ c := by omega
        have cu : c ≤ upI w p := by omega
        have cw := (le_up p0).mp cu
        rw [← hc]
        simp only [gN, gT, gT0, gTC, wipeD, D.tup.injEq, D.lst.injEq, List.length_cons, List.length_nil, Nat.reduceAdd, List.cons.injEq, exists_eq_left', exists_eq_left, exists_and_left, and_true, true_and, and_assoc, List.set_cons_zero, List.set_cons_succ, reduceCtorEq, Int.zero_add]
        refine sq_cut fun R2 eR2 => ?_
        simp only [fLenSet, fMul3, dTr, tru, dAsgT, gS, dMake2, dCBK, fMinD, dCallG, fRepr, fEqS, dSq, dAsg, dNx, dExp, dRet, dRetN, dIfS, dBk, dCt, dAppend, dInsert, dRemove, dPopAt, dSetAt, dRaise, dRaise0, dRaiseL, dVar, dC, dOp, dT, dChain, dNotT, dAndT, dOrT, dAndV, dOrV, dNotV, dIf, dNeg, dNil, dCons, dCB, dTup, dLst, dCall, dCallV, dCallF, dFld, dNoPart, dPart, dSl, dIsSeq, dBM, dTM, dXf, dYes, fSub, fDiv, fMod, fPow, fAdd, fCat, fMul, fRep, fLt, fLe, fGt, fGe, fIs, fIsNot, fIx, fSl, fSlL, fLen, fList, fTuple, fMax2, fMin2, fMax, fMin, fAbs, fInt, fIsi, fIsiN, fIsiC, gN, gT, gT0, gTC, diSeq, diRng1, diRng2, diEnum, dstart, De.off, exD, suiteD, List.map_cons, List.map_nil, List.length_cons, List.length_nil, Nat.reduceAdd, Nat.reduceSub, List.replicate_succ, List.replicate_zero, List.getElem?_cons_zero, List.getElem?_cons_succ, List.set_cons_zero, List.set_cons_succ, Option.some.injEq, exists_eq_left', exists_eq_left, exists_and_left, D.int.injEq, D.bl.injEq, D.lst.injEq, D.tup.injEq, D.str.injEq, D.exc.injEq, List.cons.injEq, and_true, true_and, List.nil_append, List.cons_append, List.append_nil, reduceCtorEq, false_and, exists_false, or_false, false_or, or_true, true_or, and_false, Int.reduceNeg, decide_eq_true_eq, Bool.not_eq_true', decide_eq_false_iff_not, and_assoc, Nat.zero_le, List.length_map, Int.zero_add, Int.reduceLT, Int.reduceLE, Int.reducePow, Int.reduceToNat, Int.reduceAdd, Int.reduceMul, Int.reduceSub, Nat.reduceLeDiff, fEq_ints, fNe_ints, fEq_lstsI, fNe_lstsI, fEq_tupsI, fNe_tupsI, noLA_ints, fSum_lst, fSum_tup, fSorted_lst, fSorted_tup, ↓reduceIte, Bool.false_eq_true, Bool.true_eq_false, false_implies, true_implies, implies_true, forall_const, Bool.not_true, Bool.not_false]
        refine lc_i ((foundM p w w).map tupI) (fun i acc => acc = (((foundM p w w).take i).filter fun r => decide (c ∈ r)).map tupI) (fun Q q => by simp only [fLenSet, fMul3, dTr, tru, dAsgT, gS, dMake2, dCBK, fMinD, dCallG, fRepr, fEqS, dSq, dAsg, dNx, dExp, dRet, dRetN, dIfS, dBk, dCt, dAppend, dInsert, dRemove, dPopAt, dSetAt, dRaise, dRaise0, dRaiseL, dVar, dC, dOp, dT, dChain, dNotT, dAndT, dOrT, dAndV, dOrV, dNotV, dIf, dNeg, dNil, dCons, dCB, dTup, dLst, dCall, dCallV, dCallF, dFld, dNoPart, dPart, dSl, dIsSeq, dBM, dTM, dXf, dYes, fSub, fDiv, fMod, fPow, fAdd, fCat, fMul, fRep, fLt, fLe, fGt, fGe, fIs, fIsNot, fIx, fSl, fSlL, fLen, fList, fTuple, fMax2, fMin2, fMax, fMin, fAbs, fInt, fIsi, fIsiN, fIsiC, gN, gT, gT0, gTC, diSeq, diRng1, diRng2, diEnum, dstart, De.off, exD, suiteD, List.map_cons, List.map_nil, List.length_cons, List.length_nil, Nat.reduceAdd, Nat.reduceSub, List.replicate_succ, List.replicate_zero, List.getElem?_cons_zero, List.getElem?_cons_succ, List.set_cons_zero, List.set_cons_succ, Option.some.injEq, exists_eq_left', exists_eq_left, exists_and_left, D.int.injEq, D.bl.injEq, D.lst.injEq, D.tup.injEq, D.str.injEq, D.exc.injEq, List.cons.injEq, and_true, true_and, List.nil_append, List.cons_append, List.append_nil, reduceCtorEq, false_and, exists_false, or_false, false_or, or_true, true_or, and_false, Int.reduceNeg, decide_eq_true_eq, Bool.not_eq_true', decide_eq_false_iff_not, and_assoc, Nat.zero_le, List.length_map, Int.zero_add, Int.reduceLT, Int.reduceLE, Int.reducePow, Int.reduceToNat, Int.reduceAdd, Int.reduceMul, Int.reduceSub, Nat.reduceLeDiff, fEq_ints, fNe_ints, fEq_lstsI, fNe_lstsI, fEq_tupsI, fNe_tupsI, noLA_ints, fSum_lst, fSum_tup, fSorted_lst, fSorted_tup, ↓reduceIte, Bool.false_eq_true, Bool.true_eq_false, false_implies, true_implies, implies_true, forall_const, Bool.not_true, Bool.not_false]; exact ⟨_, rfl, q⟩) rfl ?_ ?_
        · rintro i acc x M hM rfl hx
          rw [List.getElem?_map] at hx
          obtain ⟨r, hr, rfl⟩ := Option.map_eq_some_iff.mp hx
          have hi := (List.getElem?_eq_some_iff.mp hr).1
          have hf := fl_step (f := fun r : List Int => decide (c ∈ r)) hr
          have hlen := List.length_filter_le (fun r : List Int => decide (c ∈ r)) ((foundM p w w).take i)
          rw [List.length_take] at hlen
          simp only [fLenSet, fMul3, dTr, tru, dAsgT, gS, dMake2, dCBK, fMinD, dCallG, fRepr, fEqS, dSq, dAsg, dNx, dExp, dRet, dRetN, dIfS, dBk, dCt, dAppend, dInsert, dRemove, dPopAt, dSetAt, dRaise, dRaise0, dRaiseL, dVar, dC, dOp, dT, dChain, dNotT, dAndT, dOrT, dAndV, dOrV, dNotV, dIf, dNeg, dNil, dCons, dCB, dTup, dLst, dCall, dCallV, dCallF, dFld, dNoPart, dPart, dSl, dIsSeq, dBM, dTM, dXf, dYes, fSub, fDiv, fMod, fPow, fAdd, fCat, fMul, fRep, fLt, fLe, fGt, fGe, fIs, fIsNot, fIx, fSl, fSlL, fLen, fList, fTuple, fMax2, fMin2, fMax, fMin, fAbs, fInt, fIsi, fIsiN, fIsiC, gN, gT, gT0, gTC, diSeq, diRng1, diRng2, diEnum, dstart, De.off, exD, suiteD, List.map_cons, List.map_nil, List.length_cons, List.length_nil, Nat.reduceAdd, Nat.reduceSub, List.replicate_succ, List.replicate_zero, List.getElem?_cons_zero, List.getElem?_cons_succ, List.set_cons_zero, List.set_cons_succ, Option.some.injEq, exists_eq_left', exists_eq_left, exists_and_left, D.int.injEq, D.bl.injEq, D.lst.injEq, D.tup.injEq, D.str.injEq, D.exc.injEq, List.cons.injEq, and_true, true_and, List.nil_append, List.cons_append, List.append_nil, reduceCtorEq, false_and, exists_false, or_false, false_or, or_true, true_or, and_false, Int.reduceNeg, decide_eq_true_eq, Bool.not_eq_true', decide_eq_false_iff_not, and_assoc, Nat.zero_le, List.length_map, Int.zero_add, Int.reduceLT, Int.reduceLE, Int.reducePow, Int.reduceToNat, Int.reduceAdd, Int.reduceMul, Int.reduceSub, Nat.reduceLeDiff, fEq_ints, fNe_ints, fEq_lstsI, fNe_lstsI, fEq_tupsI, fNe_tupsI, noLA_ints, fSum_lst, fSum_tup, fSorted_lst, fSorted_tup, ↓reduceIte, Bool.false_eq_true, Bool.true_eq_false, false_implies, true_implies, implies_true, forall_const, Bool.not_true, Bool.not_false, wipeD]
          refine fIn_tup ?_
          simp only [fLenSet, fMul3, dTr, tru, dAsgT, gS, dMake2, dCBK, fMinD, dCallG, fRepr, fEqS, dSq, dAsg, dNx, dExp, dRet, dRetN, dIfS, dBk, dCt, dAppend, dInsert, dRemove, dPopAt, dSetAt, dRaise, dRaise0, dRaiseL, dVar, dC, dOp, dT, dChain, dNotT, dAndT, dOrT, dAndV, dOrV, dNotV, dIf, dNeg, dNil, dCons, dCB, dTup, dLst, dCall, dCallV, dCallF, dFld, dNoPart, dPart, dSl, dIsSeq, dBM, dTM, dXf, dYes, fSub, fDiv, fMod, fPow, fAdd, fCat, fMul, fRep, fLt, fLe, fGt, fGe, fIs, fIsNot, fIx, fSl, fSlL, fLen, fList, fTuple, fMax2, fMin2, fMax, fMin, fAbs, fInt, fIsi, fIsiN, fIsiC, gN, gT, gT0, gTC, diSeq, diRng1, diRng2, diEnum, dstart, De.off, exD, suiteD, List.map_cons, List.map_nil, List.length_cons, List.length_nil, Nat.reduceAdd, Nat.reduceSub, List.replicate_succ, List.replicate_zero, List.getElem?_cons_zero, List.getElem?_cons_succ, List.set_cons_zero, List.set_cons_succ, Option.some.injEq, exists_eq_left', exists_eq_left, exists_and_left, D.int.injEq, D.bl.injEq, D.lst.injEq, D.tup.injEq, D.str.injEq, D.exc.injEq, List.cons.injEq, and_true, true_and, List.nil_append, List.cons_append, List.append_nil, reduceCtorEq, false_and, exists_false, or_false, false_or, or_true, true_or, and_false, Int.reduceNeg, decide_eq_true_eq, Bool.not_eq_true', decide_eq_false_iff_not, and_assoc, Nat.zero_le, List.length_map, Int.zero_add, Int.reduceLT, Int.reduceLE, Int.reducePow, Int.reduceToNat, Int.reduceAdd, Int.reduceMul, Int.reduceSub, Nat.reduceLeDiff, fEq_ints, fNe_ints, fEq_lstsI, fNe_lstsI, fEq_tupsI, fNe_tupsI, noLA_ints, fSum_lst, fSum_tup, fSorted_lst, fSorted_tup, ↓reduceIte, Bool.false_eq_true, Bool.true_eq_false, false_implies, true_implies, implies_true, forall_const, Bool.not_true, Bool.not_false]
          split
          · rename_i h
            rw [decide_eq_true h, if_pos rfl] at hf
            exact ⟨by omega, hM _ (by rw [hf, List.map_append]; rfl)⟩
          · rename_i h
            rw [decide_eq_false h, if_neg (by decide), List.append_nil] at hf
            exact hM _ (by rw [hf])
        · rintro acc rfl
          rw [List.length_map, List.take_length]
          obtain ⟨rows, hrows⟩ : ∃ rows, rows = (foundM p w w).filter fun r => decide (c ∈ r) := ⟨_, rfl⟩
          have hmem : ∀ r, r ∈ rows ↔ Row p r ∧ r.sum ≤ w ∧ c ∈ r := fun r => by
            rw [hrows, List.mem_filter, mem_all, decide_eq_true_eq, and_assoc]
          have hrl : rows.length ≤ 1 + 4096 * w := by
            have := List.length_filter_le (fun r : List Int => decide (c ∈ r)) (foundM p w w)
            rw [← hrows] at this
            omega
          rw [← hrows]
          have aT : (p - 1) * (c - 1) ≤ p * (c - 1) := Int.mul_le_mul_of_nonneg_right (by omega) (by omega)
          obtain ⟨m, hm⟩ := few_is (t := (p - 1) * (c - 1)) p0 399 (by have := far_gr p0 p1; omega)
          obtain ⟨r0, g1, g2, g3, g4⟩ := with_row p0 c1 hm
          have r0m : r0 ∈ rows := (hmem r0).mpr ⟨g1, by omega, g2⟩
          subst eR2
          refine sq_cut fun R2 eR2 => ?_
          simp only [fLenSet, fMul3, dTr, tru, dAsgT, gS, dMake2, dCBK, fMinD, dCallG, fRepr, fEqS, dSq, dAsg, dNx, dExp, dRet, dRetN, dIfS, dBk, dCt, dAppend, dInsert, dRemove, dPopAt, dSetAt, dRaise, dRaise0, dRaiseL, dVar, dC, dOp, dT, dChain, dNotT, dAndT, dOrT, dAndV, dOrV, dNotV, dIf, dNeg, dNil, dCons, dCB, dTup, dLst, dCall, dCallV, dCallF, dFld, dNoPart, dPart, dSl, dIsSeq, dBM, dTM, dXf, dYes, fSub, fDiv, fMod, fPow, fAdd, fCat, fMul, fRep, fLt, fLe, fGt, fGe, fIs, fIsNot, fIx, fSl, fSlL, fLen, fList, fTuple, fMax2, fMin2, fMax, fMin, fAbs, fInt, fIsi, fIsiN, fIsiC, gN, gT, gT0, gTC, diSeq, diRng1, diRng2, diEnum, dstart, De.off, exD, suiteD, List.map_cons, List.map_nil, List.length_cons, List.length_nil, Nat.reduceAdd, Nat.reduceSub, List.replicate_succ, List.replicate_zero, List.getElem?_cons_zero, List.getElem?_cons_succ, List.set_cons_zero, List.set_cons_succ, Option.some.injEq, exists_eq_left', exists_eq_left, exists_and_left, D.int.injEq, D.bl.injEq, D.lst.injEq, D.tup.injEq, D.str.injEq, D.exc.injEq, List.cons.injEq, and_true, true_and, List.nil_append, List.cons_append, List.append_nil, reduceCtorEq, false_and, exists_false, or_false, false_or, or_true, true_or, and_false, Int.reduceNeg, decide_eq_true_eq, Bool.not_eq_true', decide_eq_false_iff_not, and_assoc, Nat.zero_le, List.length_map, Int.zero_add, Int.reduceLT, Int.reduceLE, Int.reducePow, Int.reduceToNat, Int.reduceAdd, Int.reduceMul, Int.reduceSub, Nat.reduceLeDiff, fEq_ints, fNe_ints, fEq_lstsI, fNe_lstsI, fEq_tupsI, fNe_tupsI, noLA_ints, fSum_lst, fSum_tup, fSorted_lst, fSorted_tup, ↓reduceIte, Bool.false_eq_true, Bool.true_eq_false, false_implies, true_implies, implies_true, forall_const, Bool.not_true, Bool.not_false]
          refine least_ok p0 p1 c1 (by omega) ?_
          refine lc_i (rows.map tupI) (fun i acc => acc = ((rows.take i).map List.sum).map D.int) (fun Q q => by simp only [fLenSet, fMul3, dTr, tru, dAsgT, gS, dMake2, dCBK, fMinD, dCallG, fRepr, fEqS, dSq, dAsg, dNx, dExp, dRet, dRetN, dIfS, dBk, dCt, dAppend, dInsert, dRemove, dPopAt, dSetAt, dRaise, dRaise0, dRaiseL, dVar, dC, dOp, dT, dChain, dNotT, dAndT, dOrT, dAndV, dOrV, dNotV, dIf, dNeg, dNil, dCons, dCB, dTup, dLst, dCall, dCallV, dCallF, dFld, dNoPart, dPart, dSl, dIsSeq, dBM, dTM, dXf, dYes, fSub, fDiv, fMod, fPow, fAdd, fCat, fMul, fRep, fLt, fLe, fGt, fGe, fIs, fIsNot, fIx, fSl, fSlL, fLen, fList, fTuple, fMax2, fMin2, fMax, fMin, fAbs, fInt, fIsi, fIsiN, fIsiC, gN, gT, gT0, gTC, diSeq, diRng1, diRng2, diEnum, dstart, De.off, exD, suiteD, List.map_cons, List.map_nil, List.length_cons, List.length_nil, Nat.reduceAdd, Nat.reduceSub, List.replicate_succ, List.replicate_zero, List.getElem?_cons_zero, List.getElem?_cons_succ, List.set_cons_zero, List.set_cons_succ, Option.some.injEq, exists_eq_left', exists_eq_left, exists_and_left, D.int.injEq, D.bl.injEq, D.lst.injEq, D.tup.injEq, D.str.injEq, D.exc.injEq, List.cons.injEq, and_true, true_and, List.nil_append, List.cons_append, List.append_nil, reduceCtorEq, false_and, exists_false, or_false, false_or, or_true, true_or, and_false, Int.reduceNeg, decide_eq_true_eq, Bool.not_eq_true', decide_eq_false_iff_not, and_assoc, Nat.zero_le, List.length_map, Int.zero_add, Int.reduceLT, Int.reduceLE, Int.reducePow, Int.reduceToNat, Int.reduceAdd, Int.reduceMul, Int.reduceSub, Nat.reduceLeDiff, fEq_ints, fNe_ints, fEq_lstsI, fNe_lstsI, fEq_tupsI, fNe_tupsI, noLA_ints, fSum_lst, fSum_tup, fSorted_lst, fSorted_tup, ↓reduceIte, Bool.false_eq_true, Bool.true_eq_false, false_implies, true_implies, implies_true, forall_const, Bool.not_true, Bool.not_false]; exact ⟨_, rfl, q⟩) rfl ?_ ?_
          · rintro i acc x M hM rfl hx
            rw [List.getElem?_map] at hx
            obtain ⟨r, hr, rfl⟩ := Option.map_eq_some_iff.mp hx
            have hi := (List.getElem?_eq_some_iff.mp hr).1
            simp only [fLenSet, fMul3, dTr, tru, dAsgT, gS, dMake2, dCBK, fMinD, dCallG, fRepr, fEqS, dSq, dAsg, dNx, dExp, dRet, dRetN, dIfS, dBk, dCt, dAppend, dInsert, dRemove, dPopAt, dSetAt, dRaise, dRaise0, dRaiseL, dVar, dC, dOp, dT, dChain, dNotT, dAndT, dOrT, dAndV, dOrV, dNotV, dIf, dNeg, dNil, dCons, dCB, dTup, dLst, dCall, dCallV, dCallF, dFld, dNoPart, dPart, dSl, dIsSeq, dBM, dTM, dXf, dYes, fSub, fDiv, fMod, fPow, fAdd, fCat, fMul, fRep, fLt, fLe, fGt, fGe, fIs, fIsNot, fIx, fSl, fSlL, fLen, fList, fTuple, fMax2, fMin2, fMax, fMin, fAbs, fInt, fIsi, fIsiN, fIsiC, gN, gT, gT0, gTC, diSeq, diRng1, diRng2, diEnum, dstart, De.off, exD, suiteD, List.map_cons, List.map_nil, List.length_cons, List.length_nil, Nat.reduceAdd, Nat.reduceSub, List.replicate_succ, List.replicate_zero, List.getElem?_cons_zero, List.getElem?_cons_succ, List.set_cons_zero, List.set_cons_succ, Option.some.injEq, exists_eq_left', exists_eq_left, exists_and_left, D.int.injEq, D.bl.injEq, D.lst.injEq, D.tup.injEq, D.str.injEq, D.exc.injEq, List.cons.injEq, and_true, true_and, List.nil_append, List.cons_append, List.append_nil, reduceCtorEq, false_and, exists_false, or_false, false_or, or_true, true_or, and_false, Int.reduceNeg, decide_eq_true_eq, Bool.not_eq_true', decide_eq_false_iff_not, and_assoc, Nat.zero_le, List.length_map, Int.zero_add, Int.reduceLT, Int.reduceLE, Int.reducePow, Int.reduceToNat, Int.reduceAdd, Int.reduceMul, Int.reduceSub, Nat.reduceLeDiff, fEq_ints, fNe_ints, fEq_lstsI, fNe_lstsI, fEq_tupsI, fNe_tupsI, noLA_ints, fSum_lst, fSum_tup, fSorted_lst, fSorted_tup, ↓reduceIte, Bool.false_eq_true, Bool.true_eq_false, false_implies, true_implies, implies_true, forall_const, Bool.not_true, Bool.not_false, wipeD]
            exact ⟨by rw [List.length_take]; omega, hM _ (by rw [map_step hr, List.map_append]; rfl)⟩
          · rintro acc rfl
            rw [List.length_map, List.take_length]
            refine ⟨_, rfl, by rw [List.length_map]; exact List.length_pos_of_mem r0m, fun s h1 h2 => ?_⟩
            have e : p * (c - 1) + 1 = s := by
              obtain ⟨r, f1, rfl⟩ := List.mem_map.mp h1
              obtain ⟨f2, _, f3⟩ := (hmem r).mp f1
              have := with_sum p0 f2 f3
              have := h2 _ (List.mem_map.mpr ⟨r0, r0m, rfl⟩)
              omega
            simp only [fLenSet, fMul3, dTr, tru, dAsgT, gS, dMake2, dCBK, fMinD, dCallG, fRepr, fEqS, dSq, dAsg, dNx, dExp, dRet, dRetN, dIfS, dBk, dCt, dAppend, dInsert, dRemove, dPopAt, dSetAt, dRaise, dRaise0, dRaiseL, dVar, dC, dOp, dT, dChain, dNotT, dAndT, dOrT, dAndV, dOrV, dNotV, dIf, dNeg, dNil, dCons, dCB, dTup, dLst, dCall, dCallV, dCallF, dFld, dNoPart, dPart, dSl, dIsSeq, dBM, dTM, dXf, dYes, fSub, fDiv, fMod, fPow, fAdd, fCat, fMul, fRep, fLt, fLe, fGt, fGe, fIs, fIsNot, fIx, fSl, fSlL, fLen, fList, fTuple, fMax2, fMin2, fMax, fMin, fAbs, fInt, fIsi, fIsiN, fIsiC, gN, gT, gT0, gTC, diSeq, diRng1, diRng2, diEnum, dstart, De.off, exD, suiteD, List.map_cons, List.map_nil, List.length_cons, List.length_nil, Nat.reduceAdd, Nat.reduceSub, List.replicate_succ, List.replicate_zero, List.getElem?_cons_zero, List.getElem?_cons_succ, List.set_cons_zero, List.set_cons_succ, Option.some.injEq, exists_eq_left', exists_eq_left, exists_and_left, D.int.injEq, D.bl.injEq, D.lst.injEq, D.tup.injEq, D.str.injEq, D.exc.injEq, List.cons.injEq, and_true, true_and, List.nil_append, List.cons_append, List.append_nil, reduceCtorEq, false_and, exists_false, or_false, false_or, or_true, true_or, and_false, Int.reduceNeg, decide_eq_true_eq, Bool.not_eq_true', decide_eq_false_iff_not, and_assoc, Nat.zero_le, List.length_map, Int.zero_add, Int.reduceLT, Int.reduceLE, Int.reducePow, Int.reduceToNat, Int.reduceAdd, Int.reduceMul, Int.reduceSub, Nat.reduceLeDiff, fEq_ints, fNe_ints, fEq_lstsI, fNe_lstsI, fEq_tupsI, fNe_tupsI, noLA_ints, fSum_lst, fSum_tup, fSorted_lst, fSorted_tup, ↓reduceIte, Bool.false_eq_true, Bool.true_eq_false, false_implies, true_implies, implies_true, forall_const, Bool.not_true, Bool.not_false]
            rw [if_neg (by omega)]
            subst eR2
            simp only [fLenSet, fMul3, dTr, tru, dAsgT, gS, dMake2, dCBK, fMinD, dCallG, fRepr, fEqS, dSq, dAsg, dNx, dExp, dRet, dRetN, dIfS, dBk, dCt, dAppend, dInsert, dRemove, dPopAt, dSetAt, dRaise, dRaise0, dRaiseL, dVar, dC, dOp, dT, dChain, dNotT, dAndT, dOrT, dAndV, dOrV, dNotV, dIf, dNeg, dNil, dCons, dCB, dTup, dLst, dCall, dCallV, dCallF, dFld, dNoPart, dPart, dSl, dIsSeq, dBM, dTM, dXf, dYes, fSub, fDiv, fMod, fPow, fAdd, fCat, fMul, fRep, fLt, fLe, fGt, fGe, fIs, fIsNot, fIx, fSl, fSlL, fLen, fList, fTuple, fMax2, fMin2, fMax, fMin, fAbs, fInt, fIsi, fIsiN, fIsiC, gN, gT, gT0, gTC, diSeq, diRng1, diRng2, diEnum, dstart, De.off, exD, suiteD, List.map_cons, List.map_nil, List.length_cons, List.length_nil, Nat.reduceAdd, Nat.reduceSub, List.replicate_succ, List.replicate_zero, List.getElem?_cons_zero, List.getElem?_cons_succ, List.set_cons_zero, List.set_cons_succ, Option.some.injEq, exists_eq_left', exists_eq_left, exists_and_left, D.int.injEq, D.bl.injEq, D.lst.injEq, D.tup.injEq, D.str.injEq, D.exc.injEq, List.cons.injEq, and_true, true_and, List.nil_append, List.cons_append, List.append_nil, reduceCtorEq, false_and, exists_false, or_false, false_or, or_true, true_or, and_false, Int.reduceNeg, decide_eq_true_eq, Bool.not_eq_true', decide_eq_false_iff_not, and_assoc, Nat.zero_le, List.length_map, Int.zero_add, Int.reduceLT, Int.reduceLE, Int.reducePow, Int.reduceToNat, Int.reduceAdd, Int.reduceMul, Int.reduceSub, Nat.reduceLeDiff, fEq_ints, fNe_ints, fEq_lstsI, fNe_lstsI, fEq_tupsI, fNe_tupsI, noLA_ints, fSum_lst, fSum_tup, fSorted_lst, fSorted_tup, ↓reduceIte, Bool.false_eq_true, Bool.true_eq_false, false_implies, true_implies, implies_true, forall_const, Bool.not_true, Bool.not_false]
            refine fewest_ok p0 p1 c1 (by omega) fun m2 hm2 => ?_
            obtain rfl := hm.one hm2
            refine lc_i (rows.map tupI) (fun i acc => acc = ((rows.take i).map fun (r : List Int) => (r.length : Int)).map D.int) (fun Q q => by simp only [fLenSet, fMul3, dTr, tru, dAsgT, gS, dMake2, dCBK, fMinD, dCallG, fRepr, fEqS, dSq, dAsg, dNx, dExp, dRet, dRetN, dIfS, dBk, dCt, dAppend, dInsert, dRemove, dPopAt, dSetAt, dRaise, dRaise0, dRaiseL, dVar, dC, dOp, dT, dChain, dNotT, dAndT, dOrT, dAndV, dOrV, dNotV, dIf, dNeg, dNil, dCons, dCB, dTup, dLst, dCall, dCallV, dCallF, dFld, dNoPart, dPart, dSl, dIsSeq, dBM, dTM, dXf, dYes, fSub, fDiv, fMod, fPow, fAdd, fCat, fMul, fRep, fLt, fLe, fGt, fGe, fIs, fIsNot, fIx, fSl, fSlL, fLen, fList, fTuple, fMax2, fMin2, fMax, fMin, fAbs, fInt, fIsi, fIsiN, fIsiC, gN, gT, gT0, gTC, diSeq, diRng1, diRng2, diEnum, dstart, De.off, exD, suiteD, List.map_cons, List.map_nil, List.length_cons, List.length_nil, Nat.reduceAdd, Nat.reduceSub, List.replicate_succ, List.replicate_zero, List.getElem?_cons_zero, List.getElem?_cons_succ, List.set_cons_zero, List.set_cons_succ, Option.some.injEq, exists_eq_left', exists_eq_left, exists_and_left, D.int.injEq, D.bl.injEq, D.lst.injEq, D.tup.injEq, D.str.injEq, D.exc.injEq, List.cons.injEq, and_true, true_and, List.nil_append, List.cons_append, List.append_nil, reduceCtorEq, false_and, exists_false, or_false, false_or, or_true, true_or, and_false, Int.reduceNeg, decide_eq_true_eq, Bool.not_eq_true', decide_eq_false_iff_not, and_assoc, Nat.zero_le, List.length_map, Int.zero_add, Int.reduceLT, Int.reduceLE, Int.reducePow, Int.reduceToNat, Int.reduceAdd, Int.reduceMul, Int.reduceSub, Nat.reduceLeDiff, fEq_ints, fNe_ints, fEq_lstsI, fNe_lstsI, fEq_tupsI, fNe_tupsI, noLA_ints, fSum_lst, fSum_tup, fSorted_lst, fSorted_tup, ↓reduceIte, Bool.false_eq_true, Bool.true_eq_false, false_implies, true_implies, implies_true, forall_const, Bool.not_true, Bool.not_false]; exact ⟨_, rfl, q⟩) rfl ?_ ?_
            · rintro i acc x M hM rfl hx
              rw [List.getElem?_map] at hx
              obtain ⟨r, hr, rfl⟩ := Option.map_eq_some_iff.mp hx
              have hi := (List.getElem?_eq_some_iff.mp hr).1
              simp only [fLenSet, fMul3, dTr, tru, dAsgT, gS, dMake2, dCBK, fMinD, dCallG, fRepr, fEqS, dSq, dAsg, dNx, dExp, dRet, dRetN, dIfS, dBk, dCt, dAppend, dInsert, dRemove, dPopAt, dSetAt, dRaise, dRaise0, dRaiseL, dVar, dC, dOp, dT, dChain, dNotT, dAndT, dOrT, dAndV, dOrV, dNotV, dIf, dNeg, dNil, dCons, dCB, dTup, dLst, dCall, dCallV, dCallF, dFld, dNoPart, dPart, dSl, dIsSeq, dBM, dTM, dXf, dYes, fSub, fDiv, fMod, fPow, fAdd, fCat, fMul, fRep, fLt, fLe, fGt, fGe, fIs, fIsNot, fIx, fSl, fSlL, fLen, fList, fTuple, fMax2, fMin2, fMax, fMin, fAbs, fInt, fIsi, fIsiN, fIsiC, gN, gT, gT0, gTC, diSeq, diRng1, diRng2, diEnum, dstart, De.off, exD, suiteD, List.map_cons, List.map_nil, List.length_cons, List.length_nil, Nat.reduceAdd, Nat.reduceSub, List.replicate_succ, List.replicate_zero, List.getElem?_cons_zero, List.getElem?_cons_succ, List.set_cons_zero, List.set_cons_succ, Option.some.injEq, exists_eq_left', exists_eq_left, exists_and_left, D.int.injEq, D.bl.injEq, D.lst.injEq, D.tup.injEq, D.str.injEq, D.exc.injEq, List.cons.injEq, and_true, true_and, List.nil_append, List.cons_append, List.append_nil, reduceCtorEq, false_and, exists_false, or_false, false_or, or_true, true_or, and_false, Int.reduceNeg, decide_eq_true_eq, Bool.not_eq_true', decide_eq_false_iff_not, and_assoc, Nat.zero_le, List.length_map, Int.zero_add, Int.reduceLT, Int.reduceLE, Int.reducePow, Int.reduceToNat, Int.reduceAdd, Int.reduceMul, Int.reduceSub, Nat.reduceLeDiff, fEq_ints, fNe_ints, fEq_lstsI, fNe_lstsI, fEq_tupsI, fNe_tupsI, noLA_ints, fSum_lst, fSum_tup, fSorted_lst, fSorted_tup, ↓reduceIte, Bool.false_eq_true, Bool.true_eq_false, false_implies, true_implies, implies_true, forall_const, Bool.not_true, Bool.not_false, wipeD]
              exact ⟨by rw [List.length_take]; omega, hM _ (by rw [map_step hr, List.map_append]; rfl)⟩
            · rintro acc rfl
              rw [List.length_map, List.take_length]
              refine ⟨_, rfl, by rw [List.length_map]; exact List.length_pos_of_mem r0m, fun s h1 h2 => ?_⟩
              have e2 : (m : Int) + 1 = s := by
                obtain ⟨r, f1, rfl⟩ := List.mem_map.mp h1
                obtain ⟨f2, _, f3⟩ := (hmem r).mp f1
                have := with_len p0 hm f2 f3
                have := h2 _ (List.mem_map.mpr ⟨r0, r0m, rfl⟩)
                omega
              simp only [fLenSet, fMul3, dTr, tru, dAsgT, gS, dMake2, dCBK, fMinD, dCallG, fRepr, fEqS, dSq, dAsg, dNx, dExp, dRet, dRetN, dIfS, dBk, dCt, dAppend, dInsert, dRemove, dPopAt, dSetAt, dRaise, dRaise0, dRaiseL, dVar, dC, dOp, dT, dChain, dNotT, dAndT, dOrT, dAndV, dOrV, dNotV, dIf, dNeg, dNil, dCons, dCB, dTup, dLst, dCall, dCallV, dCallF, dFld, dNoPart, dPart, dSl, dIsSeq, dBM, dTM, dXf, dYes, fSub, fDiv, fMod, fPow, fAdd, fCat, fMul, fRep, fLt, fLe, fGt, fGe, fIs, fIsNot, fIx, fSl, fSlL, fLen, fList, fTuple, fMax2, fMin2, fMax, fMin, fAbs, fInt, fIsi, fIsiN, fIsiC, gN, gT, gT0, gTC, diSeq, diRng1, diRng2, diEnum, dstart, De.off, exD, suiteD, List.map_cons, List.map_nil, List.length_cons, List.length_nil, Nat.reduceAdd, Nat.reduceSub, List.replicate_succ, List.replicate_zero, List.getElem?_cons_zero, List.getElem?_cons_succ, List.set_cons_zero, List.set_cons_succ, Option.some.injEq, exists_eq_left', exists_eq_left, exists_and_left, D.int.injEq, D.bl.injEq, D.lst.injEq, D.tup.injEq, D.str.injEq, D.exc.injEq, List.cons.injEq, and_true, true_and, List.nil_append, List.cons_append, List.append_nil, reduceCtorEq, false_and, exists_false, or_false, false_or, or_true, true_or, and_false, Int.reduceNeg, decide_eq_true_eq, Bool.not_eq_true', decide_eq_false_iff_not, and_assoc, Nat.zero_le, List.length_map, Int.zero_add, Int.reduceLT, Int.reduceLE, Int.reducePow, Int.reduceToNat, Int.reduceAdd, Int.reduceMul, Int.reduceSub, Nat.reduceLeDiff, fEq_ints, fNe_ints, fEq_lstsI, fNe_lstsI, fEq_tupsI, fNe_tupsI, noLA_ints, fSum_lst, fSum_tup, fSorted_lst, fSorted_tup, ↓reduceIte, Bool.false_eq_true, Bool.true_eq_false, false_implies, true_implies, implies_true, forall_const, Bool.not_true, Bool.not_false]
              rw [if_neg (by omega)]
              exact hN _ ⟨_, _, _, _, _, _, rfl⟩
      · rintro δ' ⟨v4, v5, v6, v7, v8, v9, rfl⟩
        subst eR
        simp only [fLenSet, fMul3, dTr, tru, dAsgT, gS, dMake2, dCBK, fMinD, dCallG, fRepr, fEqS, dSq, dAsg, dNx, dExp, dRet, dRetN, dIfS, dBk, dCt, dAppend, dInsert, dRemove, dPopAt, dSetAt, dRaise, dRaise0, dRaiseL, dVar, dC, dOp, dT, dChain, dNotT, dAndT, dOrT, dAndV, dOrV, dNotV, dIf, dNeg, dNil, dCons, dCB, dTup, dLst, dCall, dCallV, dCallF, dFld, dNoPart, dPart, dSl, dIsSeq, dBM, dTM, dXf, dYes, fSub, fDiv, fMod, fPow, fAdd, fCat, fMul, fRep, fLt, fLe, fGt, fGe, fIs, fIsNot, fIx, fSl, fSlL, fLen, fList, fTuple, fMax2, fMin2, fMax, fMin, fAbs, fInt, fIsi, fIsiN, fIsiC, gN, gT, gT0, gTC, diSeq, diRng1, diRng2, diEnum, dstart, De.off, exD, suiteD, List.map_cons, List.map_nil, List.length_cons, List.length_nil, Nat.reduceAdd, Nat.reduceSub, List.replicate_succ, List.replicate_zero, List.getElem?_cons_zero, List.getElem?_cons_succ, List.set_cons_zero, List.set_cons_succ, Option.some.injEq, exists_eq_left', exists_eq_left, exists_and_left, D.int.injEq, D.bl.injEq, D.lst.injEq, D.tup.injEq, D.str.injEq, D.exc.injEq, List.cons.injEq, and_true, true_and, List.nil_append, List.cons_append, List.append_nil, reduceCtorEq, false_and, exists_false, or_false, false_or, or_true, true_or, and_false, Int.reduceNeg, decide_eq_true_eq, Bool.not_eq_true', decide_eq_false_iff_not, and_assoc, Nat.zero_le, List.length_map, Int.zero_add, Int.reduceLT, Int.reduceLE, Int.reducePow, Int.reduceToNat, Int.reduceAdd, Int.reduceMul, Int.reduceSub, Nat.reduceLeDiff, fEq_ints, fNe_ints, fEq_lstsI, fNe_lstsI, fEq_tupsI, fNe_tupsI, noLA_ints, fSum_lst, fSum_tup, fSorted_lst, fSorted_tup, ↓reduceIte, Bool.false_eq_true, Bool.true_eq_false, false_implies, true_implies, implies_true, forall_const, Bool.not_true, Bool.not_false]
        exact q
theorem ok_law {f : Addr} {fd : FuncData} (F : Fun K "law" "law" s_law f fd) (T : Txt K mg cBadPeople cBadCount cBadTotal cBadCoin cBadUnlike) : FnOk P w K mg base CX0 7 f fd ps_law (spLaw K) := by
  obtain ⟨f_l_hand, fd_l_hand, F_l_hand, m_l_hand, b_l_hand⟩ := T.d_l_hand
  have G_l_hand : FnOk P w K mg base CX0 1 f_l_hand fd_l_hand ps_l_hand (spHand K) := ok_l_hand F_l_hand T
  obtain ⟨f_l_refusals_right, fd_l_refusals_right, F_l_refusals_right, m_l_refusals_right, b_l_refusals_right⟩ := T.d_l_refusals_right
  have G_l_refusals_right : FnOk P w K mg base CX0 6 f_l_refusals_right fd_l_refusals_right ps_l_refusals_right (spOf (s_d_l_refusals_right)) := ok_l_refusals_right F_l_refusals_right T
  obtain ⟨f_l_draw, fd_l_draw, F_l_draw, m_l_draw, b_l_draw⟩ := T.d_l_draw
  have G_l_draw : FnOk P w K mg base CX0 2 f_l_draw fd_l_draw ps_l_draw (spOf (s_d_l_draw)) := ok_l_draw F_l_draw T
  obtain ⟨f_l_small_right, fd_l_small_right, F_l_small_right, m_l_small_right, b_l_small_right⟩ := T.d_l_small_right
  have G_l_small_right : FnOk P w K mg base CX0 5 f_l_small_right fd_l_small_right ps_l_small_right (spOf (s_d_l_small_right)) := ok_l_small_right F_l_small_right T
  obtain ⟨f_l_great_right, fd_l_great_right, F_l_great_right, m_l_great_right, b_l_great_right⟩ := T.d_l_great_right
  have G_l_great_right : FnOk P w K mg base CX0 5 f_l_great_right fd_l_great_right ps_l_great_right (spOf (s_d_l_great_right)) := ok_l_great_right F_l_great_right T
  obtain ⟨f_l_coins_right, fd_l_coins_right, F_l_coins_right, m_l_coins_right, b_l_coins_right⟩ := T.d_l_coins_right
  have G_l_coins_right : FnOk P w K mg base CX0 5 f_l_coins_right fd_l_coins_right ps_l_coins_right (spOf (s_d_l_coins_right)) := ok_l_coins_right F_l_coins_right T
  obtain ⟨f_l_far_right, fd_l_far_right, F_l_far_right, m_l_far_right, b_l_far_right⟩ := T.d_l_far_right
  have G_l_far_right : FnOk P w K mg base CX0 5 f_l_far_right fd_l_far_right ps_l_far_right (spOf (s_d_l_far_right)) := ok_l_far_right F_l_far_right T
  refine law_d (k := 6) (Oe := []) F sc_law rfl (by decide) [] (by decide) rfl _ (fun cdv A outer sh H E hr => ⟨(ps_set (i := 1) sc_law.nd rfl (Or.inl rfl) (pe_call G_l_hand (hr.mono (by decide)) (by rfl) m_l_hand F_l_hand.kp b_l_hand .nil pass0 (pa_cons (pv 0) pa_nil))), (s_cons (s_set (i := 2) (by decide) sc_law.nd rfl (Or.inl rfl) (d_op op_add4 l_add (toV (d_c (y := .int 2) (fun _ _ _ => .int _) pe_int)) (toV (d_call (by decide) G_l_draw (hr.mono (by decide)) (by rfl) m_l_draw F_l_draw.kp b_l_draw .nil (fun _ _ _ => .nil) pass0A (a_cons (d_var (i := 1) (by decide) (pv 1)) (a_cons (d_c (y := .int 4) (fun _ _ _ => .int _) pe_int) a_nil))))))
      (s_cons (s_if (PW.pt (d_or (d_not (d_test (d_call (by decide) G_l_small_right (hr.mono (by decide)) (by rfl) m_l_small_right F_l_small_right.kp b_l_small_right .nil (fun _ _ _ => .nil) pass0A (a_cons (d_var (i := 1) (by decide) (pv 1)) (a_cons (d_var (i := 2) (by decide) (pv 2)) a_nil))))) (d_or1 (d_not (d_test (d_call (by decide) G_l_great_right (hr.mono (by decide)) (by rfl) m_l_great_right F_l_great_right.kp b_l_great_right .nil (fun _ _ _ => .nil) pass0A (a_cons (d_var (i := 1) (by decide) (pv 1)) (a_cons (d_var (i := 2) (by decide) (pv 2)) a_nil)))))))) (s_one (s_ret (O2 := []) (fun _ z => nomatch z) (d_c (y := .bl false) (fun _ _ _ => .bl _) pe_bl)) (fun _ z => z)) (s_nil (fun _ z => z)))
      (s_cons (s_if (PW.pt (d_or (d_not (d_test (d_call (by decide) G_l_coins_right (hr.mono (by decide)) (by rfl) m_l_coins_right F_l_coins_right.kp b_l_coins_right .nil (fun _ _ _ => .nil) pass0A (a_cons (d_var (i := 1) (by decide) (pv 1)) (a_cons (d_var (i := 2) (by decide) (pv 2)) a_nil))))) (d_or1 (d_not (d_test (d_call (by decide) G_l_far_right (hr.mono (by decide)) (by rfl) m_l_far_right F_l_far_right.kp b_l_far_right .nil (fun _ _ _ => .nil) pass0A (a_cons (d_var (i := 1) (by decide) (pv 1)) (a_cons (d_var (i := 2) (by decide) (pv 2)) a_nil)))))))) (s_one (s_ret (O2 := []) (fun _ z => nomatch z) (d_c (y := .bl false) (fun _ _ _ => .bl _) pe_bl)) (fun _ z => z)) (s_nil (fun _ z => z)))
      (s_one (s_ret (O2 := []) (fun _ z => nomatch z) (d_call (by decide) G_l_refusals_right (hr.mono (by decide)) (by rfl) m_l_refusals_right F_l_refusals_right.kp b_l_refusals_right .nil (fun _ _ _ => .nil) pass0A (a_cons (d_var (i := 1) (by decide) (pv 1)) (a_cons (d_var (i := 2) (by decide) (pv 2)) a_nil)))) (by decide)))))⟩) ?_
  intro s0
  refine sq_cut fun R eR => ?_
  simp only [fLenSet, fMul3, dTr, tru, dAsgT, gS, dMake2, dCBK, fMinD, dCallG, fRepr, fEqS, dSq, dAsg, dNx, dExp, dRet, dRetN, dIfS, dBk, dCt, dAppend, dInsert, dRemove, dPopAt, dSetAt, dRaise, dRaise0, dRaiseL, dVar, dC, dOp, dT, dChain, dNotT, dAndT, dOrT, dAndV, dOrV, dNotV, dIf, dNeg, dNil, dCons, dCB, dTup, dLst, dCall, dCallV, dCallF, dFld, dNoPart, dPart, dSl, dIsSeq, dBM, dTM, dXf, dYes, fSub, fDiv, fMod, fPow, fAdd, fCat, fMul, fRep, fLt, fLe, fGt, fGe, fIs, fIsNot, fIx, fSl, fSlL, fLen, fList, fTuple, fMax2, fMin2, fMax, fMin, fAbs, fInt, fIsi, fIsiN, fIsiC, gN, gT, gT0, gTC, diSeq, diRng1, diRng2, diEnum, dstart, De.off, exD, suiteD, List.map_cons, List.map_nil, List.length_cons, List.length_nil, Nat.reduceAdd, Nat.reduceSub, List.replicate_succ, List.replicate_zero, List.getElem?_cons_zero, List.getElem?_cons_succ, List.set_cons_zero, List.set_cons_succ, Option.some.injEq, exists_eq_left', exists_eq_left, exists_and_left, D.int.injEq, D.bl.injEq, D.lst.injEq, D.tup.injEq, D.str.injEq, D.exc.injEq, List.cons.injEq, and_true, true_and, List.nil_append, List.cons_append, List.append_nil, reduceCtorEq, false_and, exists_false, or_false, false_or, or_true, true_or, and_false, Int.reduceNeg, decide_eq_true_eq, Bool.not_eq_true', decide_eq_false_iff_not, and_assoc, Nat.zero_le, List.length_map, Int.zero_add, Int.reduceLT, Int.reduceLE, Int.reducePow, Int.reduceToNat, Int.reduceAdd, Int.reduceMul, Int.reduceSub, Nat.reduceLeDiff, fEq_ints, fNe_ints, fEq_lstsI, fNe_lstsI, fEq_tupsI, fNe_tupsI, noLA_ints, fSum_lst, fSum_tup, fSorted_lst, fSorted_tup, ↓reduceIte, Bool.false_eq_true, Bool.true_eq_false, false_implies, true_implies, implies_true, forall_const, Bool.not_true, Bool.not_false, s_d_l_draw, sDraw]
  intro d d0 d1
  subst eR
  refine sq_cut fun R eR => ?_
  simp only [fLenSet, fMul3, dTr, tru, dAsgT, gS, dMake2, dCBK, fMinD, dCallG, fRepr, fEqS, dSq, dAsg, dNx, dExp, dRet, dRetN, dIfS, dBk, dCt, dAppend, dInsert, dRemove, dPopAt, dSetAt, dRaise, dRaise0, dRaiseL, dVar, dC, dOp, dT, dChain, dNotT, dAndT, dOrT, dAndV, dOrV, dNotV, dIf, dNeg, dNil, dCons, dCB, dTup, dLst, dCall, dCallV, dCallF, dFld, dNoPart, dPart, dSl, dIsSeq, dBM, dTM, dXf, dYes, fSub, fDiv, fMod, fPow, fAdd, fCat, fMul, fRep, fLt, fLe, fGt, fGe, fIs, fIsNot, fIx, fSl, fSlL, fLen, fList, fTuple, fMax2, fMin2, fMax, fMin, fAbs, fInt, fIsi, fIsiN, fIsiC, gN, gT, gT0, gTC, diSeq, diRng1, diRng2, diEnum, dstart, De.off, exD, suiteD, List.map_cons, List.map_nil, List.length_cons, List.length_nil, Nat.reduceAdd, Nat.reduceSub, List.replicate_succ, List.replicate_zero, List.getElem?_cons_zero, List.getElem?_cons_succ, List.set_cons_zero, List.set_cons_succ, Option.some.injEq, exists_eq_left', exists_eq_left, exists_and_left, D.int.injEq, D.bl.injEq, D.lst.injEq, D.tup.injEq, D.str.injEq, D.exc.injEq, List.cons.injEq, and_true, true_and, List.nil_append, List.cons_append, List.append_nil, reduceCtorEq, false_and, exists_false, or_false, false_or, or_true, true_or, and_false, Int.reduceNeg, decide_eq_true_eq, Bool.not_eq_true', decide_eq_false_iff_not, and_assoc, Nat.zero_le, List.length_map, Int.zero_add, Int.reduceLT, Int.reduceLE, Int.reducePow, Int.reduceToNat, Int.reduceAdd, Int.reduceMul, Int.reduceSub, Nat.reduceLeDiff, fEq_ints, fNe_ints, fEq_lstsI, fNe_lstsI, fEq_tupsI, fNe_tupsI, noLA_ints, fSum_lst, fSum_tup, fSorted_lst, fSorted_tup, ↓reduceIte, Bool.false_eq_true, Bool.true_eq_false, false_implies, true_implies, implies_true, forall_const, Bool.not_true, Bool.not_false, s_d_l_small_right, s_d_l_great_right]
  refine ⟨by omega, by omega, by omega, by omega, ?_⟩
  subst eR
  refine sq_cut fun R eR => ?_
  simp only [fLenSet, fMul3, dTr, tru, dAsgT, gS, dMake2, dCBK, fMinD, dCallG, fRepr, fEqS, dSq, dAsg, dNx, dExp, dRet, dRetN, dIfS, dBk, dCt, dAppend, dInsert, dRemove, dPopAt, dSetAt, dRaise, dRaise0, dRaiseL, dVar, dC, dOp, dT, dChain, dNotT, dAndT, dOrT, dAndV, dOrV, dNotV, dIf, dNeg, dNil, dCons, dCB, dTup, dLst, dCall, dCallV, dCallF, dFld, dNoPart, dPart, dSl, dIsSeq, dBM, dTM, dXf, dYes, fSub, fDiv, fMod, fPow, fAdd, fCat, fMul, fRep, fLt, fLe, fGt, fGe, fIs, fIsNot, fIx, fSl, fSlL, fLen, fList, fTuple, fMax2, fMin2, fMax, fMin, fAbs, fInt, fIsi, fIsiN, fIsiC, gN, gT, gT0, gTC, diSeq, diRng1, diRng2, diEnum, dstart, De.off, exD, suiteD, List.map_cons, List.map_nil, List.length_cons, List.length_nil, Nat.reduceAdd, Nat.reduceSub, List.replicate_succ, List.replicate_zero, List.getElem?_cons_zero, List.getElem?_cons_succ, List.set_cons_zero, List.set_cons_succ, Option.some.injEq, exists_eq_left', exists_eq_left, exists_and_left, D.int.injEq, D.bl.injEq, D.lst.injEq, D.tup.injEq, D.str.injEq, D.exc.injEq, List.cons.injEq, and_true, true_and, List.nil_append, List.cons_append, List.append_nil, reduceCtorEq, false_and, exists_false, or_false, false_or, or_true, true_or, and_false, Int.reduceNeg, decide_eq_true_eq, Bool.not_eq_true', decide_eq_false_iff_not, and_assoc, Nat.zero_le, List.length_map, Int.zero_add, Int.reduceLT, Int.reduceLE, Int.reducePow, Int.reduceToNat, Int.reduceAdd, Int.reduceMul, Int.reduceSub, Nat.reduceLeDiff, fEq_ints, fNe_ints, fEq_lstsI, fNe_lstsI, fEq_tupsI, fNe_tupsI, noLA_ints, fSum_lst, fSum_tup, fSorted_lst, fSorted_tup, ↓reduceIte, Bool.false_eq_true, Bool.true_eq_false, false_implies, true_implies, implies_true, forall_const, Bool.not_true, Bool.not_false, s_d_l_coins_right, s_d_l_far_right]
  refine ⟨by omega, by omega, by omega, by omega, ?_⟩
  subst eR
  simp only [fLenSet, fMul3, dTr, tru, dAsgT, gS, dMake2, dCBK, fMinD, dCallG, fRepr, fEqS, dSq, dAsg, dNx, dExp, dRet, dRetN, dIfS, dBk, dCt, dAppend, dInsert, dRemove, dPopAt, dSetAt, dRaise, dRaise0, dRaiseL, dVar, dC, dOp, dT, dChain, dNotT, dAndT, dOrT, dAndV, dOrV, dNotV, dIf, dNeg, dNil, dCons, dCB, dTup, dLst, dCall, dCallV, dCallF, dFld, dNoPart, dPart, dSl, dIsSeq, dBM, dTM, dXf, dYes, fSub, fDiv, fMod, fPow, fAdd, fCat, fMul, fRep, fLt, fLe, fGt, fGe, fIs, fIsNot, fIx, fSl, fSlL, fLen, fList, fTuple, fMax2, fMin2, fMax, fMin, fAbs, fInt, fIsi, fIsiN, fIsiC, gN, gT, gT0, gTC, diSeq, diRng1, diRng2, diEnum, dstart, De.off, exD, suiteD, List.map_cons, List.map_nil, List.length_cons, List.length_nil, Nat.reduceAdd, Nat.reduceSub, List.replicate_succ, List.replicate_zero, List.getElem?_cons_zero, List.getElem?_cons_succ, List.set_cons_zero, List.set_cons_succ, Option.some.injEq, exists_eq_left', exists_eq_left, exists_and_left, D.int.injEq, D.bl.injEq, D.lst.injEq, D.tup.injEq, D.str.injEq, D.exc.injEq, List.cons.injEq, and_true, true_and, List.nil_append, List.cons_append, List.append_nil, reduceCtorEq, false_and, exists_false, or_false, false_or, or_true, true_or, and_false, Int.reduceNeg, decide_eq_true_eq, Bool.not_eq_true', decide_eq_false_iff_not, and_assoc, Nat.zero_le, List.length_map, Int.zero_add, Int.reduceLT, Int.reduceLE, Int.reducePow, Int.reduceToNat, Int.reduceAdd, Int.reduceMul, Int.reduceSub, Nat.reduceLeDiff, fEq_ints, fNe_ints, fEq_lstsI, fNe_lstsI, fEq_tupsI, fNe_tupsI, noLA_ints, fSum_lst, fSum_tup, fSorted_lst, fSorted_tup, ↓reduceIte, Bool.false_eq_true, Bool.true_eq_false, false_implies, true_implies, implies_true, forall_const, Bool.not_true, Bool.not_false, s_d_l_refusals_right]
  exact ⟨by omega, by omega⟩

end
end My
set_option Elab.async false
set_option linter.all false
set_option maxRecDepth 100000
set_option maxHeartbeats 8000000
namespace My
open PySem PySem.Spec PyProof.Rows L2 Gen DL
theorem all_mk {l : PySem.W.OpenLaw} {w : World} {K : PySem.W.Frag} {h : Heap} {mg : Str → Option Value} {fa : Addr}
    {cBadPeople cBadCount cBadTotal cBadCoin cBadUnlike : Addr}
    {a1 : Addr} {od1 an1 : Option Addr} {sl1 : Array (Option Value)} {oc1 kV1 dc1 pm1 cd1 ct1 : Value}
    {a2 : Addr} {od2 an2 : Option Addr} {sl2 : Array (Option Value)} {oc2 kV2 dc2 pm2 cd2 ct2 : Value}
    {a3 : Addr} {od3 an3 : Option Addr} {sl3 : Array (Option Value)} {oc3 kV3 dc3 pm3 cd3 ct3 : Value}
    {a4 : Addr} {od4 an4 : Option Addr} {sl4 : Array (Option Value)} {oc4 kV4 dc4 pm4 cd4 ct4 : Value}
    {a5 : Addr} {od5 an5 : Option Addr} {sl5 : Array (Option Value)} {oc5 kV5 dc5 pm5 cd5 ct5 : Value}
    {dT5 : Addr} {dd5 : Option Addr} {dn5 : Nat} {dsl5 : Array (Option Value)} {dt5_0 : Tok}
    {a6 : Addr} {od6 an6 : Option Addr} {sl6 : Array (Option Value)} {oc6 kV6 dc6 pm6 cd6 ct6 : Value}
    {a7 : Addr} {od7 an7 : Option Addr} {sl7 : Array (Option Value)} {oc7 kV7 dc7 pm7 cd7 ct7 : Value}
    {a8 : Addr} {od8 an8 : Option Addr} {sl8 : Array (Option Value)} {oc8 kV8 dc8 pm8 cd8 ct8 : Value}
    {a9 : Addr} {od9 an9 : Option Addr} {sl9 : Array (Option Value)} {oc9 kV9 dc9 pm9 cd9 ct9 : Value}
    {a10 : Addr} {od10 an10 : Option Addr} {sl10 : Array (Option Value)} {oc10 kV10 dc10 pm10 cd10 ct10 : Value}
    {a11 : Addr} {od11 an11 : Option Addr} {sl11 : Array (Option Value)} {oc11 kV11 dc11 pm11 cd11 ct11 : Value}
    {a12 : Addr} {od12 an12 : Option Addr} {sl12 : Array (Option Value)} {oc12 kV12 dc12 pm12 cd12 ct12 : Value}
    {a13 : Addr} {od13 an13 : Option Addr} {sl13 : Array (Option Value)} {oc13 kV13 dc13 pm13 cd13 ct13 : Value}
    {a14 : Addr} {od14 an14 : Option Addr} {sl14 : Array (Option Value)} {oc14 kV14 dc14 pm14 cd14 ct14 : Value}
    {a15 : Addr} {od15 an15 : Option Addr} {sl15 : Array (Option Value)} {oc15 kV15 dc15 pm15 cd15 ct15 : Value}
    {a16 : Addr} {od16 an16 : Option Addr} {sl16 : Array (Option Value)} {oc16 kV16 dc16 pm16 cd16 ct16 : Value}
    {a17 : Addr} {od17 an17 : Option Addr} {sl17 : Array (Option Value)} {oc17 kV17 dc17 pm17 cd17 ct17 : Value}
    {a18 : Addr} {od18 an18 : Option Addr} {sl18 : Array (Option Value)} {oc18 kV18 dc18 pm18 cd18 ct18 : Value}
    {a19 : Addr} {od19 an19 : Option Addr} {sl19 : Array (Option Value)} {oc19 kV19 dc19 pm19 cd19 ct19 : Value}
    {a20 : Addr} {od20 an20 : Option Addr} {sl20 : Array (Option Value)} {oc20 kV20 dc20 pm20 cd20 ct20 : Value}
    {a21 : Addr} {od21 an21 : Option Addr} {sl21 : Array (Option Value)} {oc21 kV21 dc21 pm21 cd21 ct21 : Value}
    {a22 : Addr} {od22 an22 : Option Addr} {sl22 : Array (Option Value)} {oc22 kV22 dc22 pm22 cd22 ct22 : Value}
    {a23 : Addr} {od23 an23 : Option Addr} {sl23 : Array (Option Value)} {oc23 kV23 dc23 pm23 cd23 ct23 : Value}
    {a24 : Addr} {od24 an24 : Option Addr} {sl24 : Array (Option Value)} {oc24 kV24 dc24 pm24 cd24 ct24 : Value}
    {a25 : Addr} {od25 an25 : Option Addr} {sl25 : Array (Option Value)} {oc25 kV25 dc25 pm25 cd25 ct25 : Value}
    {a26 : Addr} {od26 an26 : Option Addr} {sl26 : Array (Option Value)} {oc26 kV26 dc26 pm26 cd26 ct26 : Value}
    {a27 : Addr} {od27 an27 : Option Addr} {sl27 : Array (Option Value)} {oc27 kV27 dc27 pm27 cd27 ct27 : Value}
    {a28 : Addr} {od28 an28 : Option Addr} {sl28 : Array (Option Value)} {oc28 kV28 dc28 pm28 cd28 ct28 : Value}
    {a29 : Addr} {od29 an29 : Option Addr} {sl29 : Array (Option Value)} {oc29 kV29 dc29 pm29 cd29 ct29 : Value}
    {a30 : Addr} {od30 an30 : Option Addr} {sl30 : Array (Option Value)} {oc30 kV30 dc30 pm30 cd30 ct30 : Value}
    {a31 : Addr} {od31 an31 : Option Addr} {sl31 : Array (Option Value)} {oc31 kV31 dc31 pm31 cd31 ct31 : Value}
    {a32 : Addr} {od32 an32 : Option Addr} {sl32 : Array (Option Value)} {oc32 kV32 dc32 pm32 cd32 ct32 : Value}
    {a33 : Addr} {od33 an33 : Option Addr} {sl33 : Array (Option Value)} {oc33 kV33 dc33 pm33 cd33 ct33 : Value}
    {a34 : Addr} {od34 an34 : Option Addr} {sl34 : Array (Option Value)} {oc34 kV34 dc34 pm34 cd34 ct34 : Value}
    {a35 : Addr} {od35 an35 : Option Addr} {sl35 : Array (Option Value)} {oc35 kV35 dc35 pm35 cd35 ct35 : Value}
    {a36 : Addr} {od36 an36 : Option Addr} {sl36 : Array (Option Value)} {oc36 kV36 dc36 pm36 cd36 ct36 : Value}
    {a37 : Addr} {od37 an37 : Option Addr} {sl37 : Array (Option Value)} {oc37 kV37 dc37 pm37 cd37 ct37 : Value}
    {a38 : Addr} {od38 an38 : Option Addr} {sl38 : Array (Option Value)} {oc38 kV38 dc38 pm38 cd38 ct38 : Value}
    {tk_MOST_PEOPLE : Tok}
    {tk_GREATEST_COIN : Tok}
    {tk_GREATEST_TOTAL : Tok}
    {tk_LEAST_PEOPLE : Tok}
    {tk_MOST_COINS : Tok}
    {nm_BadCount q_BadCount : Str} {N_BadCount B_BadCount : Addr} {bs_BadCount : List Value} {sn_BadCount : List Str} {sub_BadCount : List Value} {ab_BadCount : Bool} {col_BadCount : Option Bool} {dd_BadCount : Option Addr} {m0_BadCount m1_BadCount m2_BadCount m3_BadCount m5_BadCount : Option Value}
    {nm_BadTotal q_BadTotal : Str} {N_BadTotal B_BadTotal : Addr} {bs_BadTotal : List Value} {sn_BadTotal : List Str} {sub_BadTotal : List Value} {ab_BadTotal : Bool} {col_BadTotal : Option Bool} {dd_BadTotal : Option Addr} {m0_BadTotal m1_BadTotal m2_BadTotal m3_BadTotal m5_BadTotal : Option Value} (X : K.In h) (G : h.Ns mainGlobals mg) (hfa : mg "law" = some (.ref fa))
    (g_BadPeople : PySem.W.nsIn K mainGlobals "BadPeople" = some (some (.ref cBadPeople)))
    (g_BadCount : PySem.W.nsIn K mainGlobals "BadCount" = some (some (.ref cBadCount)))
    (g_BadTotal : PySem.W.nsIn K mainGlobals "BadTotal" = some (some (.ref cBadTotal)))
    (g_BadCoin : PySem.W.nsIn K mainGlobals "BadCoin" = some (some (.ref cBadCoin)))
    (g_BadUnlike : PySem.W.nsIn K mainGlobals "BadUnlike" = some (some (.ref cBadUnlike)))
    (a_i_BadCount : PySem.W.findIn K (.ref cBadCount) "__init__" = some (some (.ref a1)))
    (l_i_BadCount : K.lookup a1 = some ⟨oc1, od1, .func (PySem.W.fnOf "__init__" "BadCount.__init__" (defArgs s_i_BadCount) (defBody s_i_BadCount) (defScope s_i_BadCount) .none kV1 dc1 pm1 an1 cd1 ct1), sl1⟩)
    (c_i_BadCount : PySem.W.codeIn K cd1 "BadCount.__init__" = true)
    (k_i_BadCount : PySem.W.keepIn K (.ref a1) = true)
    (t_i_BadCount : PySem.W.typeIn K (.ref a1) = some (.type "function"))
    (a_i_BadTotal : PySem.W.findIn K (.ref cBadTotal) "__init__" = some (some (.ref a2)))
    (l_i_BadTotal : K.lookup a2 = some ⟨oc2, od2, .func (PySem.W.fnOf "__init__" "BadTotal.__init__" (defArgs s_i_BadTotal) (defBody s_i_BadTotal) (defScope s_i_BadTotal) .none kV2 dc2 pm2 an2 cd2 ct2), sl2⟩)
    (c_i_BadTotal : PySem.W.codeIn K cd2 "BadTotal.__init__" = true)
    (k_i_BadTotal : PySem.W.keepIn K (.ref a2) = true)
    (t_i_BadTotal : PySem.W.typeIn K (.ref a2) = some (.type "function"))
    (a_is_number : PySem.W.nsIn K mainGlobals "is_number" = some (some (.ref a3)))
    (l_is_number : K.lookup a3 = some ⟨oc3, od3, .func (PySem.W.fnOf "is_number" "is_number" (defArgs s_is_number) (defBody s_is_number) (defScope s_is_number) .none kV3 dc3 pm3 an3 cd3 ct3), sl3⟩)
    (c_is_number : PySem.W.codeIn K cd3 "is_number" = true)
    (k_is_number : PySem.W.keepIn K (.ref a3) = true)
    (a_is_whole : PySem.W.nsIn K mainGlobals "is_whole" = some (some (.ref a4)))
    (l_is_whole : K.lookup a4 = some ⟨oc4, od4, .func (PySem.W.fnOf "is_whole" "is_whole" (defArgs s_is_whole) (defBody s_is_whole) (defScope s_is_whole) .none kV4 dc4 pm4 an4 cd4 ct4), sl4⟩)
    (c_is_whole : PySem.W.codeIn K cd4 "is_whole" = true)
    (k_is_whole : PySem.W.keepIn K (.ref a4) = true)
    (a_check_people : PySem.W.nsIn K mainGlobals "check_people" = some (some (.ref a5)))
    (l_check_people : K.lookup a5 = some ⟨oc5, od5, .func (PySem.W.fnOf "check_people" "check_people" (defArgs s_check_people) (defBody s_check_people) (defScope s_check_people) (.ref dT5) kV5 dc5 pm5 an5 cd5 ct5), sl5⟩)
    (t_check_people : K.lookup dT5 = some ⟨.type "tuple", dd5, .seq #[.int 1 dt5_0] dn5, dsl5⟩)
    (c_check_people : PySem.W.codeIn K cd5 "check_people" = true)
    (k_check_people : PySem.W.keepIn K (.ref a5) = true)
    (a_up : PySem.W.nsIn K mainGlobals "up" = some (some (.ref a6)))
    (l_up : K.lookup a6 = some ⟨oc6, od6, .func (PySem.W.fnOf "up" "up" (defArgs s_up) (defBody s_up) (defScope s_up) .none kV6 dc6 pm6 an6 cd6 ct6), sl6⟩)
    (c_up : PySem.W.codeIn K cd6 "up" = true)
    (k_up : PySem.W.keepIn K (.ref a6) = true)
    (a_check_count : PySem.W.nsIn K mainGlobals "check_count" = some (some (.ref a7)))
    (l_check_count : K.lookup a7 = some ⟨oc7, od7, .func (PySem.W.fnOf "check_count" "check_count" (defArgs s_check_count) (defBody s_check_count) (defScope s_check_count) .none kV7 dc7 pm7 an7 cd7 ct7), sl7⟩)
    (c_check_count : PySem.W.codeIn K cd7 "check_count" = true)
    (k_check_count : PySem.W.keepIn K (.ref a7) = true)
    (a_check_total : PySem.W.nsIn K mainGlobals "check_total" = some (some (.ref a8)))
    (l_check_total : K.lookup a8 = some ⟨oc8, od8, .func (PySem.W.fnOf "check_total" "check_total" (defArgs s_check_total) (defBody s_check_total) (defScope s_check_total) .none kV8 dc8 pm8 an8 cd8 ct8), sl8⟩)
    (c_check_total : PySem.W.codeIn K cd8 "check_total" = true)
    (k_check_total : PySem.W.keepIn K (.ref a8) = true)
    (a_check_coin : PySem.W.nsIn K mainGlobals "check_coin" = some (some (.ref a9)))
    (l_check_coin : K.lookup a9 = some ⟨oc9, od9, .func (PySem.W.fnOf "check_coin" "check_coin" (defArgs s_check_coin) (defBody s_check_coin) (defScope s_check_coin) .none kV9 dc9 pm9 an9 cd9 ct9), sl9⟩)
    (c_check_coin : PySem.W.codeIn K cd9 "check_coin" = true)
    (k_check_coin : PySem.W.keepIn K (.ref a9) = true)
    (a_room_at : PySem.W.nsIn K mainGlobals "room_at" = some (some (.ref a10)))
    (l_room_at : K.lookup a10 = some ⟨oc10, od10, .func (PySem.W.fnOf "room_at" "room_at" (defArgs s_room_at) (defBody s_room_at) (defScope s_room_at) .none kV10 dc10 pm10 an10 cd10 ct10), sl10⟩)
    (c_room_at : PySem.W.codeIn K cd10 "room_at" = true)
    (k_room_at : PySem.W.keepIn K (.ref a10) = true)
    (a_fewest_for : PySem.W.nsIn K mainGlobals "fewest_for" = some (some (.ref a11)))
    (l_fewest_for : K.lookup a11 = some ⟨oc11, od11, .func (PySem.W.fnOf "fewest_for" "fewest_for" (defArgs s_fewest_for) (defBody s_fewest_for) (defScope s_fewest_for) .none kV11 dc11 pm11 an11 cd11 ct11), sl11⟩)
    (c_fewest_for : PySem.W.codeIn K cd11 "fewest_for" = true)
    (k_fewest_for : PySem.W.keepIn K (.ref a11) = true)
    (a_greatest_coin : PySem.W.nsIn K mainGlobals "greatest_coin" = some (some (.ref a12)))
    (l_greatest_coin : K.lookup a12 = some ⟨oc12, od12, .func (PySem.W.fnOf "greatest_coin" "greatest_coin" (defArgs s_greatest_coin) (defBody s_greatest_coin) (defScope s_greatest_coin) .none kV12 dc12 pm12 an12 cd12 ct12), sl12⟩)
    (c_greatest_coin : PySem.W.codeIn K cd12 "greatest_coin" = true)
    (k_greatest_coin : PySem.W.keepIn K (.ref a12) = true)
    (a_least_total_with : PySem.W.nsIn K mainGlobals "least_total_with" = some (some (.ref a13)))
    (l_least_total_with : K.lookup a13 = some ⟨oc13, od13, .func (PySem.W.fnOf "least_total_with" "least_total_with" (defArgs s_least_total_with) (defBody s_least_total_with) (defScope s_least_total_with) .none kV13 dc13 pm13 an13 cd13 ct13), sl13⟩)
    (c_least_total_with : PySem.W.codeIn K cd13 "least_total_with" = true)
    (k_least_total_with : PySem.W.keepIn K (.ref a13) = true)
    (a_fewest_with : PySem.W.nsIn K mainGlobals "fewest_with" = some (some (.ref a14)))
    (l_fewest_with : K.lookup a14 = some ⟨oc14, od14, .func (PySem.W.fnOf "fewest_with" "fewest_with" (defArgs s_fewest_with) (defBody s_fewest_with) (defScope s_fewest_with) .none kV14 dc14 pm14 an14 cd14 ct14), sl14⟩)
    (c_fewest_with : PySem.W.codeIn K cd14 "fewest_with" = true)
    (k_fewest_with : PySem.W.keepIn K (.ref a14) = true)
    (a_greatest_unlike : PySem.W.nsIn K mainGlobals "greatest_unlike" = some (some (.ref a15)))
    (l_greatest_unlike : K.lookup a15 = some ⟨oc15, od15, .func (PySem.W.fnOf "greatest_unlike" "greatest_unlike" (defArgs s_greatest_unlike) (defBody s_greatest_unlike) (defScope s_greatest_unlike) .none kV15 dc15 pm15 an15 cd15 ct15), sl15⟩)
    (c_greatest_unlike : PySem.W.codeIn K cd15 "greatest_unlike" = true)
    (k_greatest_unlike : PySem.W.keepIn K (.ref a15) = true)
    (a_greatest_grown : PySem.W.nsIn K mainGlobals "greatest_grown" = some (some (.ref a16)))
    (l_greatest_grown : K.lookup a16 = some ⟨oc16, od16, .func (PySem.W.fnOf "greatest_grown" "greatest_grown" (defArgs s_greatest_grown) (defBody s_greatest_grown) (defScope s_greatest_grown) .none kV16 dc16 pm16 an16 cd16 ct16), sl16⟩)
    (c_greatest_grown : PySem.W.codeIn K cd16 "greatest_grown" = true)
    (k_greatest_grown : PySem.W.keepIn K (.ref a16) = true)
    (a_l_mix : PySem.W.nsIn K mainGlobals "_law_mix" = some (some (.ref a17)))
    (l_l_mix : K.lookup a17 = some ⟨oc17, od17, .func (PySem.W.fnOf "_law_mix" "_law_mix" (defArgs s_l_mix) (defBody s_l_mix) (defScope s_l_mix) .none kV17 dc17 pm17 an17 cd17 ct17), sl17⟩)
    (c_l_mix : PySem.W.codeIn K cd17 "_law_mix" = true)
    (k_l_mix : PySem.W.keepIn K (.ref a17) = true)
    (a_l_hand : PySem.W.nsIn K mainGlobals "_law_hand" = some (some (.ref a18)))
    (l_l_hand : K.lookup a18 = some ⟨oc18, od18, .func (PySem.W.fnOf "_law_hand" "_law_hand" (defArgs s_l_hand) (defBody s_l_hand) (defScope s_l_hand) .none kV18 dc18 pm18 an18 cd18 ct18), sl18⟩)
    (c_l_hand : PySem.W.codeIn K cd18 "_law_hand" = true)
    (k_l_hand : PySem.W.keepIn K (.ref a18) = true)
    (a_l_draw : PySem.W.nsIn K mainGlobals "_law_draw" = some (some (.ref a19)))
    (l_l_draw : K.lookup a19 = some ⟨oc19, od19, .func (PySem.W.fnOf "_law_draw" "_law_draw" (defArgs s_l_draw) (defBody s_l_draw) (defScope s_l_draw) .none kV19 dc19 pm19 an19 cd19 ct19), sl19⟩)
    (c_l_draw : PySem.W.codeIn K cd19 "_law_draw" = true)
    (k_l_draw : PySem.W.keepIn K (.ref a19) = true)
    (a_l_pick : PySem.W.nsIn K mainGlobals "_law_pick" = some (some (.ref a20)))
    (l_l_pick : K.lookup a20 = some ⟨oc20, od20, .func (PySem.W.fnOf "_law_pick" "_law_pick" (defArgs s_l_pick) (defBody s_l_pick) (defScope s_l_pick) .none kV20 dc20 pm20 an20 cd20 ct20), sl20⟩)
    (c_l_pick : PySem.W.codeIn K cd20 "_law_pick" = true)
    (k_l_pick : PySem.W.keepIn K (.ref a20) = true)
    (a_l_is_whole : PySem.W.nsIn K mainGlobals "_law_is_whole" = some (some (.ref a21)))
    (l_l_is_whole : K.lookup a21 = some ⟨oc21, od21, .func (PySem.W.fnOf "_law_is_whole" "_law_is_whole" (defArgs s_l_is_whole) (defBody s_l_is_whole) (defScope s_l_is_whole) .none kV21 dc21 pm21 an21 cd21 ct21), sl21⟩)
    (c_l_is_whole : PySem.W.codeIn K cd21 "_law_is_whole" = true)
    (k_l_is_whole : PySem.W.keepIn K (.ref a21) = true)
    (a_l_is_coins : PySem.W.nsIn K mainGlobals "_law_is_coins" = some (some (.ref a22)))
    (l_l_is_coins : K.lookup a22 = some ⟨oc22, od22, .func (PySem.W.fnOf "_law_is_coins" "_law_is_coins" (defArgs s_l_is_coins) (defBody s_l_is_coins) (defScope s_l_is_coins) .none kV22 dc22 pm22 an22 cd22 ct22), sl22⟩)
    (c_l_is_coins : PySem.W.codeIn K cd22 "_law_is_coins" = true)
    (k_l_is_coins : PySem.W.keepIn K (.ref a22) = true)
    (a_l_up : PySem.W.nsIn K mainGlobals "_law_up" = some (some (.ref a23)))
    (l_l_up : K.lookup a23 = some ⟨oc23, od23, .func (PySem.W.fnOf "_law_up" "_law_up" (defArgs s_l_up) (defBody s_l_up) (defScope s_l_up) .none kV23 dc23 pm23 an23 cd23 ct23), sl23⟩)
    (c_l_up : PySem.W.codeIn K cd23 "_law_up" = true)
    (k_l_up : PySem.W.keepIn K (.ref a23) = true)
    (a_l_serves : PySem.W.nsIn K mainGlobals "_law_serves" = some (some (.ref a24)))
    (l_l_serves : K.lookup a24 = some ⟨oc24, od24, .func (PySem.W.fnOf "_law_serves" "_law_serves" (defArgs s_l_serves) (defBody s_l_serves) (defScope s_l_serves) .none kV24 dc24 pm24 an24 cd24 ct24), sl24⟩)
    (c_l_serves : PySem.W.codeIn K cd24 "_law_serves" = true)
    (k_l_serves : PySem.W.keepIn K (.ref a24) = true)
    (a_l_next : PySem.W.nsIn K mainGlobals "_law_next" = some (some (.ref a25)))
    (l_l_next : K.lookup a25 = some ⟨oc25, od25, .func (PySem.W.fnOf "_law_next" "_law_next" (defArgs s_l_next) (defBody s_l_next) (defScope s_l_next) .none kV25 dc25 pm25 an25 cd25 ct25), sl25⟩)
    (c_l_next : PySem.W.codeIn K cd25 "_law_next" = true)
    (k_l_next : PySem.W.keepIn K (.ref a25) = true)
    (a_l_great : PySem.W.nsIn K mainGlobals "_law_great" = some (some (.ref a26)))
    (l_l_great : K.lookup a26 = some ⟨oc26, od26, .func (PySem.W.fnOf "_law_great" "_law_great" (defArgs s_l_great) (defBody s_l_great) (defScope s_l_great) .none kV26 dc26 pm26 an26 cd26 ct26), sl26⟩)
    (c_l_great : PySem.W.codeIn K cd26 "_law_great" = true)
    (k_l_great : PySem.W.keepIn K (.ref a26) = true)
    (a_l_fewest : PySem.W.nsIn K mainGlobals "_law_fewest" = some (some (.ref a27)))
    (l_l_fewest : K.lookup a27 = some ⟨oc27, od27, .func (PySem.W.fnOf "_law_fewest" "_law_fewest" (defArgs s_l_fewest) (defBody s_l_fewest) (defScope s_l_fewest) .none kV27 dc27 pm27 an27 cd27 ct27), sl27⟩)
    (c_l_fewest : PySem.W.codeIn K cd27 "_law_fewest" = true)
    (k_l_fewest : PySem.W.keepIn K (.ref a27) = true)
    (a_l_odd_people : PySem.W.nsIn K mainGlobals "_law_odd_people" = some (some (.ref a28)))
    (l_l_odd_people : K.lookup a28 = some ⟨oc28, od28, .func (PySem.W.fnOf "_law_odd_people" "_law_odd_people" (defArgs s_l_odd_people) (defBody s_l_odd_people) (defScope s_l_odd_people) .none kV28 dc28 pm28 an28 cd28 ct28), sl28⟩)
    (c_l_odd_people : PySem.W.codeIn K cd28 "_law_odd_people" = true)
    (k_l_odd_people : PySem.W.keepIn K (.ref a28) = true)
    (a_l_odd_number : PySem.W.nsIn K mainGlobals "_law_odd_number" = some (some (.ref a29)))
    (l_l_odd_number : K.lookup a29 = some ⟨oc29, od29, .func (PySem.W.fnOf "_law_odd_number" "_law_odd_number" (defArgs s_l_odd_number) (defBody s_l_odd_number) (defScope s_l_odd_number) .none kV29 dc29 pm29 an29 cd29 ct29), sl29⟩)
    (c_l_odd_number : PySem.W.codeIn K cd29 "_law_odd_number" = true)
    (k_l_odd_number : PySem.W.keepIn K (.ref a29) = true)
    (a_l_grown : PySem.W.nsIn K mainGlobals "_law_grown" = some (some (.ref a30)))
    (l_l_grown : K.lookup a30 = some ⟨oc30, od30, .func (PySem.W.fnOf "_law_grown" "_law_grown" (defArgs s_l_grown) (defBody s_l_grown) (defScope s_l_grown) .none kV30 dc30 pm30 an30 cd30 ct30), sl30⟩)
    (c_l_grown : PySem.W.codeIn K cd30 "_law_grown" = true)
    (k_l_grown : PySem.W.keepIn K (.ref a30) = true)
    (a_l_told : PySem.W.nsIn K mainGlobals "_law_told" = some (some (.ref a31)))
    (l_l_told : K.lookup a31 = some ⟨oc31, od31, .func (PySem.W.fnOf "_law_told" "_law_told" (defArgs s_l_told) (defBody s_l_told) (defScope s_l_told) .none kV31 dc31 pm31 an31 cd31 ct31), sl31⟩)
    (c_l_told : PySem.W.codeIn K cd31 "_law_told" = true)
    (k_l_told : PySem.W.keepIn K (.ref a31) = true)
    (a_l_best : PySem.W.nsIn K mainGlobals "_law_best" = some (some (.ref a32)))
    (l_l_best : K.lookup a32 = some ⟨oc32, od32, .func (PySem.W.fnOf "_law_best" "_law_best" (defArgs s_l_best) (defBody s_l_best) (defScope s_l_best) .none kV32 dc32 pm32 an32 cd32 ct32), sl32⟩)
    (c_l_best : PySem.W.codeIn K cd32 "_law_best" = true)
    (k_l_best : PySem.W.keepIn K (.ref a32) = true)
    (a_l_small_right : PySem.W.nsIn K mainGlobals "_law_small_right" = some (some (.ref a33)))
    (l_l_small_right : K.lookup a33 = some ⟨oc33, od33, .func (PySem.W.fnOf "_law_small_right" "_law_small_right" (defArgs s_l_small_right) (defBody s_l_small_right) (defScope s_l_small_right) .none kV33 dc33 pm33 an33 cd33 ct33), sl33⟩)
    (c_l_small_right : PySem.W.codeIn K cd33 "_law_small_right" = true)
    (k_l_small_right : PySem.W.keepIn K (.ref a33) = true)
    (a_l_great_right : PySem.W.nsIn K mainGlobals "_law_great_right" = some (some (.ref a34)))
    (l_l_great_right : K.lookup a34 = some ⟨oc34, od34, .func (PySem.W.fnOf "_law_great_right" "_law_great_right" (defArgs s_l_great_right) (defBody s_l_great_right) (defScope s_l_great_right) .none kV34 dc34 pm34 an34 cd34 ct34), sl34⟩)
    (c_l_great_right : PySem.W.codeIn K cd34 "_law_great_right" = true)
    (k_l_great_right : PySem.W.keepIn K (.ref a34) = true)
    (a_l_coins_right : PySem.W.nsIn K mainGlobals "_law_coins_right" = some (some (.ref a35)))
    (l_l_coins_right : K.lookup a35 = some ⟨oc35, od35, .func (PySem.W.fnOf "_law_coins_right" "_law_coins_right" (defArgs s_l_coins_right) (defBody s_l_coins_right) (defScope s_l_coins_right) .none kV35 dc35 pm35 an35 cd35 ct35), sl35⟩)
    (c_l_coins_right : PySem.W.codeIn K cd35 "_law_coins_right" = true)
    (k_l_coins_right : PySem.W.keepIn K (.ref a35) = true)
    (a_l_far_right : PySem.W.nsIn K mainGlobals "_law_far_right" = some (some (.ref a36)))
    (l_l_far_right : K.lookup a36 = some ⟨oc36, od36, .func (PySem.W.fnOf "_law_far_right" "_law_far_right" (defArgs s_l_far_right) (defBody s_l_far_right) (defScope s_l_far_right) .none kV36 dc36 pm36 an36 cd36 ct36), sl36⟩)
    (c_l_far_right : PySem.W.codeIn K cd36 "_law_far_right" = true)
    (k_l_far_right : PySem.W.keepIn K (.ref a36) = true)
    (a_l_refusals_right : PySem.W.nsIn K mainGlobals "_law_refusals_right" = some (some (.ref a37)))
    (l_l_refusals_right : K.lookup a37 = some ⟨oc37, od37, .func (PySem.W.fnOf "_law_refusals_right" "_law_refusals_right" (defArgs s_l_refusals_right) (defBody s_l_refusals_right) (defScope s_l_refusals_right) .none kV37 dc37 pm37 an37 cd37 ct37), sl37⟩)
    (c_l_refusals_right : PySem.W.codeIn K cd37 "_law_refusals_right" = true)
    (k_l_refusals_right : PySem.W.keepIn K (.ref a37) = true)
    (a_law : PySem.W.nsIn K mainGlobals "law" = some (some (.ref a38)))
    (l_law : K.lookup a38 = some ⟨oc38, od38, .func (PySem.W.fnOf "law" "law" (defArgs s_law) (defBody s_law) (defScope s_law) .none kV38 dc38 pm38 an38 cd38 ct38), sl38⟩)
    (c_law : PySem.W.codeIn K cd38 "law" = true)
    (k_law : PySem.W.keepIn K (.ref a38) = true)
    (v_MOST_PEOPLE : PySem.W.nsIn K mainGlobals "MOST_PEOPLE" = some (some (.int 5 tk_MOST_PEOPLE)))
    (v_GREATEST_COIN : PySem.W.nsIn K mainGlobals "GREATEST_COIN" = some (some (.int 1000000000 tk_GREATEST_COIN)))
    (v_GREATEST_TOTAL : PySem.W.nsIn K mainGlobals "GREATEST_TOTAL" = some (some (.int 1000000000 tk_GREATEST_TOTAL)))
    (v_LEAST_PEOPLE : PySem.W.nsIn K mainGlobals "LEAST_PEOPLE" = some (some (.int 2 tk_LEAST_PEOPLE)))
    (v_MOST_COINS : PySem.W.nsIn K mainGlobals "MOST_COINS" = some (some (.int 12 tk_MOST_COINS)))
    (n_isinstance : PySem.W.nsIn K mainGlobals "isinstance" = some none)
    (n_int : PySem.W.nsIn K mainGlobals "int" = some none)
    (n_bool : PySem.W.nsIn K mainGlobals "bool" = some none)
    (n_range : PySem.W.nsIn K mainGlobals "range" = some none)
    (n_sum : PySem.W.nsIn K mainGlobals "sum" = some none)
    (n_enumerate : PySem.W.nsIn K mainGlobals "enumerate" = some none)
    (n_abs : PySem.W.nsIn K mainGlobals "abs" = some none)
    (n_len : PySem.W.nsIn K mainGlobals "len" = some none)
    (n_list : PySem.W.nsIn K mainGlobals "list" = some none)
    (n_sorted : PySem.W.nsIn K mainGlobals "sorted" = some none)
    (n_tuple : PySem.W.nsIn K mainGlobals "tuple" = some none)
    (n_set : PySem.W.nsIn K mainGlobals "set" = some none)
    (n_max : PySem.W.nsIn K mainGlobals "max" = some none)
    (n_min : PySem.W.nsIn K mainGlobals "min" = some none)
    (k_BadPeople : PySem.W.keepIn K (.ref cBadPeople) = true)
    (e_BadPeople : PySem.W.subIn K (.ref cBadPeople) (.type "BaseException") = some true)
    (t_BadPeople : PySem.W.typeIn K (.ref cBadPeople) = some (.type "type"))
    (i_BadPeople : PySem.W.isClsIn K cBadPeople = true)
    (x_BadPeople : PySem.W.excIn K cBadPeople [.type "ValueError", .type "Exception", .type "BaseException", .type "object"] "ValueError.__new__" = true)
    (k_BadCount : PySem.W.keepIn K (.ref cBadCount) = true)
    (e_BadCount : PySem.W.subIn K (.ref cBadCount) (.type "BaseException") = some true)
    (t_BadCount : PySem.W.typeIn K (.ref cBadCount) = some (.type "type"))
    (i_BadCount : PySem.W.isClsIn K cBadCount = true)
    (x_BadCount : K.lookup cBadCount = some (excClassObj nm_BadCount q_BadCount cBadCount N_BadCount bs_BadCount [.ref B_BadCount, .type "ValueError", .type "Exception", .type "BaseException", .type "object"] true sn_BadCount sub_BadCount ab_BadCount col_BadCount dd_BadCount m0_BadCount m1_BadCount m2_BadCount m3_BadCount m5_BadCount "ValueError.__new__"))
    (s_BadCount : PySem.W.findIn K (.ref cBadCount) "__setattr__" = some (some (.builtin "object.__setattr__")))
    (ga_BadCount : PySem.W.findIn K (.ref cBadCount) "__getattribute__" = some (some (.builtin "BaseException.__getattribute__")))
    (gg_BadCount : PySem.W.findIn K (.ref cBadCount) "__getattr__" = some none)
    (hd_BadCount : PySem.W.hasDictIn K cBadCount = true)
    (f_BadCount_most : PySem.W.findIn K (.ref cBadCount) "most" = some none)
    (k_BadTotal : PySem.W.keepIn K (.ref cBadTotal) = true)
    (e_BadTotal : PySem.W.subIn K (.ref cBadTotal) (.type "BaseException") = some true)
    (t_BadTotal : PySem.W.typeIn K (.ref cBadTotal) = some (.type "type"))
    (i_BadTotal : PySem.W.isClsIn K cBadTotal = true)
    (x_BadTotal : K.lookup cBadTotal = some (excClassObj nm_BadTotal q_BadTotal cBadTotal N_BadTotal bs_BadTotal [.ref B_BadTotal, .type "ValueError", .type "Exception", .type "BaseException", .type "object"] true sn_BadTotal sub_BadTotal ab_BadTotal col_BadTotal dd_BadTotal m0_BadTotal m1_BadTotal m2_BadTotal m3_BadTotal m5_BadTotal "ValueError.__new__"))
    (s_BadTotal : PySem.W.findIn K (.ref cBadTotal) "__setattr__" = some (some (.builtin "object.__setattr__")))
    (ga_BadTotal : PySem.W.findIn K (.ref cBadTotal) "__getattribute__" = some (some (.builtin "BaseException.__getattribute__")))
    (gg_BadTotal : PySem.W.findIn K (.ref cBadTotal) "__getattr__" = some none)
    (hd_BadTotal : PySem.W.hasDictIn K cBadTotal = true)
    (f_BadTotal_most : PySem.W.findIn K (.ref cBadTotal) "most" = some none)
    (k_BadCoin : PySem.W.keepIn K (.ref cBadCoin) = true)
    (e_BadCoin : PySem.W.subIn K (.ref cBadCoin) (.type "BaseException") = some true)
    (t_BadCoin : PySem.W.typeIn K (.ref cBadCoin) = some (.type "type"))
    (i_BadCoin : PySem.W.isClsIn K cBadCoin = true)
    (x_BadCoin : PySem.W.excIn K cBadCoin [.type "ValueError", .type "Exception", .type "BaseException", .type "object"] "ValueError.__new__" = true)
    (k_BadUnlike : PySem.W.keepIn K (.ref cBadUnlike) = true)
    (e_BadUnlike : PySem.W.subIn K (.ref cBadUnlike) (.type "BaseException") = some true)
    (t_BadUnlike : PySem.W.typeIn K (.ref cBadUnlike) = some (.type "type"))
    (i_BadUnlike : PySem.W.isClsIn K cBadUnlike = true)
    (x_BadUnlike : PySem.W.excIn K cBadUnlike [.type "ValueError", .type "Exception", .type "BaseException", .type "object"] "ValueError.__new__" = true)
    (m_BadPeople_BadPeople : PySem.W.subIn K (.ref cBadPeople) (.ref cBadPeople) = some true)
    (m_BadPeople_BadCount : PySem.W.subIn K (.ref cBadPeople) (.ref cBadCount) = some false)
    (m_BadPeople_BadTotal : PySem.W.subIn K (.ref cBadPeople) (.ref cBadTotal) = some false)
    (m_BadPeople_BadCoin : PySem.W.subIn K (.ref cBadPeople) (.ref cBadCoin) = some false)
    (m_BadPeople_BadUnlike : PySem.W.subIn K (.ref cBadPeople) (.ref cBadUnlike) = some false)
    (m_BadCount_BadPeople : PySem.W.subIn K (.ref cBadCount) (.ref cBadPeople) = some false)
    (m_BadCount_BadCount : PySem.W.subIn K (.ref cBadCount) (.ref cBadCount) = some true)
    (m_BadCount_BadTotal : PySem.W.subIn K (.ref cBadCount) (.ref cBadTotal) = some false)
    (m_BadCount_BadCoin : PySem.W.subIn K (.ref cBadCount) (.ref cBadCoin) = some false)
    (m_BadCount_BadUnlike : PySem.W.subIn K (.ref cBadCount) (.ref cBadUnlike) = some false)
    (m_BadTotal_BadPeople : PySem.W.subIn K (.ref cBadTotal) (.ref cBadPeople) = some false)
    (m_BadTotal_BadCount : PySem.W.subIn K (.ref cBadTotal) (.ref cBadCount) = some false)
    (m_BadTotal_BadTotal : PySem.W.subIn K (.ref cBadTotal) (.ref cBadTotal) = some true)
    (m_BadTotal_BadCoin : PySem.W.subIn K (.ref cBadTotal) (.ref cBadCoin) = some false)
    (m_BadTotal_BadUnlike : PySem.W.subIn K (.ref cBadTotal) (.ref cBadUnlike) = some false)
    (m_BadCoin_BadPeople : PySem.W.subIn K (.ref cBadCoin) (.ref cBadPeople) = some false)
    (m_BadCoin_BadCount : PySem.W.subIn K (.ref cBadCoin) (.ref cBadCount) = some false)
    (m_BadCoin_BadTotal : PySem.W.subIn K (.ref cBadCoin) (.ref cBadTotal) = some false)
    (m_BadCoin_BadCoin : PySem.W.subIn K (.ref cBadCoin) (.ref cBadCoin) = some true)
    (m_BadCoin_BadUnlike : PySem.W.subIn K (.ref cBadCoin) (.ref cBadUnlike) = some false)
    (m_BadUnlike_BadPeople : PySem.W.subIn K (.ref cBadUnlike) (.ref cBadPeople) = some false)
    (m_BadUnlike_BadCount : PySem.W.subIn K (.ref cBadUnlike) (.ref cBadCount) = some false)
    (m_BadUnlike_BadTotal : PySem.W.subIn K (.ref cBadUnlike) (.ref cBadTotal) = some false)
    (m_BadUnlike_BadCoin : PySem.W.subIn K (.ref cBadUnlike) (.ref cBadCoin) = some false)
    (m_BadUnlike_BadUnlike : PySem.W.subIn K (.ref cBadUnlike) (.ref cBadUnlike) = some true) :
    ∃ fd : FuncData, (∀ (s : Shared) (v : Value), BindsTo s fd ⟨[v], []⟩ [("_law_script", v)]) ∧ ∀ base : Heap, K.In base → base.Ns mainGlobals mg → FnOk l.prog w K mg base CX0 7 fa fd ["_law_script"] (spLaw K) := by
  have e := hfa.symm.trans (PySem.W.mg_of X G a_law)
  cases e
  have F1 := fun_mk (st := s_i_BadCount) l_i_BadCount c_i_BadCount k_i_BadCount
  have b1 := F1.binds (ps := ps_i_BadCount) fun _ _ _ _ _ _ us hl => match us, hl with | [_, _], _ => rfl
  have F2 := fun_mk (st := s_i_BadTotal) l_i_BadTotal c_i_BadTotal k_i_BadTotal
  have b2 := F2.binds (ps := ps_i_BadTotal) fun _ _ _ _ _ _ us hl => match us, hl with | [_, _], _ => rfl
  have F3 := fun_mk (st := s_is_number) l_is_number c_is_number k_is_number
  have b3 := F3.binds (ps := ps_is_number) fun _ _ _ _ _ _ us hl => match us, hl with | [_], _ => rfl
  have F4 := fun_mk (st := s_is_whole) l_is_whole c_is_whole k_is_whole
  have b4 := F4.binds (ps := ps_is_whole) fun _ _ _ _ _ _ us hl => match us, hl with | [_, _, _], _ => rfl
  have F5 : FunD K "check_people" "check_people" (defArgs s_check_people) (defBody s_check_people) (defScope s_check_people) [(V.int 1)] [] a5 _ := ⟨⟨_, _, _, _, _, _, _, _, _, _, rfl, l_check_people, c_check_people, .inr ⟨(fun z => nomatch z), _, _, _, _, rfl, t_check_people, rfl, (Paired.cons ⟨_, rfl⟩ Paired.nil)⟩, .inl rfl⟩, k_check_people⟩
  obtain ⟨ds5, vs5, b5⟩ := F5.binds1 (ps := ps_check_people) 2 1 (fun z => nomatch z) rfl fun _ _ _ _ _ _ _ us its h1 h2 => match us, its, h1, h2 with | [_, _], [_], _, _ => ⟨_, rfl, rfl⟩
  cases vs5
  obtain ⟨es5, ws5, c5⟩ := F5.binds1 (ps := ps_check_people) 1 0 (fun z => nomatch z) rfl fun _ _ _ _ _ _ _ us its h1 h2 => match us, its, h1, h2 with | [_], [_], _, _ => ⟨_, rfl, rfl⟩
  have F6 := fun_mk (st := s_up) l_up c_up k_up
  have b6 := F6.binds (ps := ps_up) fun _ _ _ _ _ _ us hl => match us, hl with | [_, _], _ => rfl
  have F7 := fun_mk (st := s_check_count) l_check_count c_check_count k_check_count
  have b7 := F7.binds (ps := ps_check_count) fun _ _ _ _ _ _ us hl => match us, hl with | [_, _], _ => rfl
  have F8 := fun_mk (st := s_check_total) l_check_total c_check_total k_check_total
  have b8 := F8.binds (ps := ps_check_total) fun _ _ _ _ _ _ us hl => match us, hl with | [_, _], _ => rfl
  have F9 := fun_mk (st := s_check_coin) l_check_coin c_check_coin k_check_coin
  have b9 := F9.binds (ps := ps_check_coin) fun _ _ _ _ _ _ us hl => match us, hl with | [_], _ => rfl
  have F10 := fun_mk (st := s_room_at) l_room_at c_room_at k_room_at
  have b10 := F10.binds (ps := ps_room_at) fun _ _ _ _ _ _ us hl => match us, hl with | [_, _], _ => rfl
  have F11 := fun_mk (st := s_fewest_for) l_fewest_for c_fewest_for k_fewest_for
  have b11 := F11.binds (ps := ps_fewest_for) fun _ _ _ _ _ _ us hl => match us, hl with | [_, _], _ => rfl
  have F12 := fun_mk (st := s_greatest_coin) l_greatest_coin c_greatest_coin k_greatest_coin
  have b12 := F12.binds (ps := ps_greatest_coin) fun _ _ _ _ _ _ us hl => match us, hl with | [_, _], _ => rfl
  have F13 := fun_mk (st := s_least_total_with) l_least_total_with c_least_total_with k_least_total_with
  have b13 := F13.binds (ps := ps_least_total_with) fun _ _ _ _ _ _ us hl => match us, hl with | [_, _], _ => rfl
  have F14 := fun_mk (st := s_fewest_with) l_fewest_with c_fewest_with k_fewest_with
  have b14 := F14.binds (ps := ps_fewest_with) fun _ _ _ _ _ _ us hl => match us, hl with | [_, _], _ => rfl
  have F15 := fun_mk (st := s_greatest_unlike) l_greatest_unlike c_greatest_unlike k_greatest_unlike
  have b15 := F15.binds (ps := ps_greatest_unlike) fun _ _ _ _ _ _ us hl => match us, hl with | [_, _, _], _ => rfl
  have F16 := fun_mk (st := s_greatest_grown) l_greatest_grown c_greatest_grown k_greatest_grown
  have b16 := F16.binds (ps := ps_greatest_grown) fun _ _ _ _ _ _ us hl => match us, hl with | [_, _, _], _ => rfl
  have F17 := fun_mk (st := s_l_mix) l_l_mix c_l_mix k_l_mix
  have b17 := F17.binds (ps := ps_l_mix) fun _ _ _ _ _ _ us hl => match us, hl with | [_, _], _ => rfl
  have F18 := fun_mk (st := s_l_hand) l_l_hand c_l_hand k_l_hand
  have b18 := F18.binds (ps := ps_l_hand) fun _ _ _ _ _ _ us hl => match us, hl with | [_], _ => rfl
  have F19 := fun_mk (st := s_l_draw) l_l_draw c_l_draw k_l_draw
  have b19 := F19.binds (ps := ps_l_draw) fun _ _ _ _ _ _ us hl => match us, hl with | [_, _], _ => rfl
  have F20 := fun_mk (st := s_l_pick) l_l_pick c_l_pick k_l_pick
  have b20 := F20.binds (ps := ps_l_pick) fun _ _ _ _ _ _ us hl => match us, hl with | [_, _], _ => rfl
  have F21 := fun_mk (st := s_l_is_whole) l_l_is_whole c_l_is_whole k_l_is_whole
  have b21 := F21.binds (ps := ps_l_is_whole) fun _ _ _ _ _ _ us hl => match us, hl with | [_], _ => rfl
  have F22 := fun_mk (st := s_l_is_coins) l_l_is_coins c_l_is_coins k_l_is_coins
  have b22 := F22.binds (ps := ps_l_is_coins) fun _ _ _ _ _ _ us hl => match us, hl with | [_], _ => rfl
  have F23 := fun_mk (st := s_l_up) l_l_up c_l_up k_l_up
  have b23 := F23.binds (ps := ps_l_up) fun _ _ _ _ _ _ us hl => match us, hl with | [_, _], _ => rfl
  have F24 := fun_mk (st := s_l_serves) l_l_serves c_l_serves k_l_serves
  have b24 := F24.binds (ps := ps_l_serves) fun _ _ _ _ _ _ us hl => match us, hl with | [_, _], _ => rfl
  have F25 := fun_mk (st := s_l_next) l_l_next c_l_next k_l_next
  have b25 := F25.binds (ps := ps_l_next) fun _ _ _ _ _ _ us hl => match us, hl with | [_, _], _ => rfl
  have F26 := fun_mk (st := s_l_great) l_l_great c_l_great k_l_great
  have b26 := F26.binds (ps := ps_l_great) fun _ _ _ _ _ _ us hl => match us, hl with | [_, _], _ => rfl
  have F27 := fun_mk (st := s_l_fewest) l_l_fewest c_l_fewest k_l_fewest
  have b27 := F27.binds (ps := ps_l_fewest) fun _ _ _ _ _ _ us hl => match us, hl with | [_, _], _ => rfl
  have F28 := fun_mk (st := s_l_odd_people) l_l_odd_people c_l_odd_people k_l_odd_people
  have b28 := F28.binds (ps := ps_l_odd_people) fun _ _ _ _ _ _ us hl => match us, hl with | [_], _ => rfl
  have F29 := fun_mk (st := s_l_odd_number) l_l_odd_number c_l_odd_number k_l_odd_number
  have b29 := F29.binds (ps := ps_l_odd_number) fun _ _ _ _ _ _ us hl => match us, hl with | [_, _], _ => rfl
  have F30 := fun_mk (st := s_l_grown) l_l_grown c_l_grown k_l_grown
  have b30 := F30.binds (ps := ps_l_grown) fun _ _ _ _ _ _ us hl => match us, hl with | [_, _], _ => rfl
  have F31 := fun_mk (st := s_l_told) l_l_told c_l_told k_l_told
  have b31 := F31.binds (ps := ps_l_told) fun _ _ _ _ _ _ us hl => match us, hl with | [_, _, _], _ => rfl
  have F32 := fun_mk (st := s_l_best) l_l_best c_l_best k_l_best
  have b32 := F32.binds (ps := ps_l_best) fun _ _ _ _ _ _ us hl => match us, hl with | [_, _, _, _], _ => rfl
  have F33 := fun_mk (st := s_l_small_right) l_l_small_right c_l_small_right k_l_small_right
  have b33 := F33.binds (ps := ps_l_small_right) fun _ _ _ _ _ _ us hl => match us, hl with | [_, _], _ => rfl
  have F34 := fun_mk (st := s_l_great_right) l_l_great_right c_l_great_right k_l_great_right
  have b34 := F34.binds (ps := ps_l_great_right) fun _ _ _ _ _ _ us hl => match us, hl with | [_, _], _ => rfl
  have F35 := fun_mk (st := s_l_coins_right) l_l_coins_right c_l_coins_right k_l_coins_right
  have b35 := F35.binds (ps := ps_l_coins_right) fun _ _ _ _ _ _ us hl => match us, hl with | [_, _], _ => rfl
  have F36 := fun_mk (st := s_l_far_right) l_l_far_right c_l_far_right k_l_far_right
  have b36 := F36.binds (ps := ps_l_far_right) fun _ _ _ _ _ _ us hl => match us, hl with | [_, _], _ => rfl
  have F37 := fun_mk (st := s_l_refusals_right) l_l_refusals_right c_l_refusals_right k_l_refusals_right
  have b37 := F37.binds (ps := ps_l_refusals_right) fun _ _ _ _ _ _ us hl => match us, hl with | [_, _], _ => rfl
  have F38 := fun_mk (st := s_law) l_law c_law k_law
  have b38 := F38.binds (ps := ps_law) fun _ _ _ _ _ _ us hl => match us, hl with | [_], _ => rfl
  have T : Txt K mg cBadPeople cBadCount cBadTotal cBadCoin cBadUnlike :=
    { d_is_number := ⟨_, _, F3, PySem.W.mg_of X G a_is_number, b3⟩,
      d_is_whole := ⟨_, _, F4, PySem.W.mg_of X G a_is_whole, b4⟩,
      d_check_people := ⟨_, _, F5, PySem.W.mg_of X G a_check_people, b5, es5, ws5, c5⟩,
      d_up := ⟨_, _, F6, PySem.W.mg_of X G a_up, b6⟩,
      d_check_count := ⟨_, _, F7, PySem.W.mg_of X G a_check_count, b7⟩,
      d_check_total := ⟨_, _, F8, PySem.W.mg_of X G a_check_total, b8⟩,
      d_check_coin := ⟨_, _, F9, PySem.W.mg_of X G a_check_coin, b9⟩,
      d_room_at := ⟨_, _, F10, PySem.W.mg_of X G a_room_at, b10⟩,
      d_fewest_for := ⟨_, _, F11, PySem.W.mg_of X G a_fewest_for, b11⟩,
      d_greatest_coin := ⟨_, _, F12, PySem.W.mg_of X G a_greatest_coin, b12⟩,
      d_least_total_with := ⟨_, _, F13, PySem.W.mg_of X G a_least_total_with, b13⟩,
      d_fewest_with := ⟨_, _, F14, PySem.W.mg_of X G a_fewest_with, b14⟩,
      d_greatest_unlike := ⟨_, _, F15, PySem.W.mg_of X G a_greatest_unlike, b15⟩,
      d_greatest_grown := ⟨_, _, F16, PySem.W.mg_of X G a_greatest_grown, b16⟩,
      d_l_mix := ⟨_, _, F17, PySem.W.mg_of X G a_l_mix, b17⟩,
      d_l_hand := ⟨_, _, F18, PySem.W.mg_of X G a_l_hand, b18⟩,
      d_l_draw := ⟨_, _, F19, PySem.W.mg_of X G a_l_draw, b19⟩,
      d_l_pick := ⟨_, _, F20, PySem.W.mg_of X G a_l_pick, b20⟩,
      d_l_is_whole := ⟨_, _, F21, PySem.W.mg_of X G a_l_is_whole, b21⟩,
      d_l_is_coins := ⟨_, _, F22, PySem.W.mg_of X G a_l_is_coins, b22⟩,
      d_l_up := ⟨_, _, F23, PySem.W.mg_of X G a_l_up, b23⟩,
      d_l_serves := ⟨_, _, F24, PySem.W.mg_of X G a_l_serves, b24⟩,
      d_l_next := ⟨_, _, F25, PySem.W.mg_of X G a_l_next, b25⟩,
      d_l_great := ⟨_, _, F26, PySem.W.mg_of X G a_l_great, b26⟩,
      d_l_fewest := ⟨_, _, F27, PySem.W.mg_of X G a_l_fewest, b27⟩,
      d_l_odd_people := ⟨_, _, F28, PySem.W.mg_of X G a_l_odd_people, b28⟩,
      d_l_odd_number := ⟨_, _, F29, PySem.W.mg_of X G a_l_odd_number, b29⟩,
      d_l_grown := ⟨_, _, F30, PySem.W.mg_of X G a_l_grown, b30⟩,
      d_l_told := ⟨_, _, F31, PySem.W.mg_of X G a_l_told, b31⟩,
      d_l_best := ⟨_, _, F32, PySem.W.mg_of X G a_l_best, b32⟩,
      d_l_small_right := ⟨_, _, F33, PySem.W.mg_of X G a_l_small_right, b33⟩,
      d_l_great_right := ⟨_, _, F34, PySem.W.mg_of X G a_l_great_right, b34⟩,
      d_l_coins_right := ⟨_, _, F35, PySem.W.mg_of X G a_l_coins_right, b35⟩,
      d_l_far_right := ⟨_, _, F36, PySem.W.mg_of X G a_l_far_right, b36⟩,
      d_l_refusals_right := ⟨_, _, F37, PySem.W.mg_of X G a_l_refusals_right, b37⟩,
      d_law := ⟨_, _, F38, PySem.W.mg_of X G a_law, b38⟩,
      c_MOST_PEOPLE := ⟨_, PySem.W.mg_of X G v_MOST_PEOPLE, ⟨_, rfl⟩⟩,
      c_GREATEST_COIN := ⟨_, PySem.W.mg_of X G v_GREATEST_COIN, ⟨_, rfl⟩⟩,
      c_GREATEST_TOTAL := ⟨_, PySem.W.mg_of X G v_GREATEST_TOTAL, ⟨_, rfl⟩⟩,
      c_LEAST_PEOPLE := ⟨_, PySem.W.mg_of X G v_LEAST_PEOPLE, ⟨_, rfl⟩⟩,
      c_MOST_COINS := ⟨_, PySem.W.mg_of X G v_MOST_COINS, ⟨_, rfl⟩⟩,
      n_isinstance := PySem.W.mg_none_of X G n_isinstance,
      n_int := PySem.W.mg_none_of X G n_int,
      n_bool := PySem.W.mg_none_of X G n_bool,
      n_range := PySem.W.mg_none_of X G n_range,
      n_sum := PySem.W.mg_none_of X G n_sum,
      n_enumerate := PySem.W.mg_none_of X G n_enumerate,
      n_abs := PySem.W.mg_none_of X G n_abs,
      n_len := PySem.W.mg_none_of X G n_len,
      n_list := PySem.W.mg_none_of X G n_list,
      n_sorted := PySem.W.mg_none_of X G n_sorted,
      n_tuple := PySem.W.mg_none_of X G n_tuple,
      n_set := PySem.W.mg_none_of X G n_set,
      n_max := PySem.W.mg_none_of X G n_max,
      n_min := PySem.W.mg_none_of X G n_min,
      y_BadPeople := ⟨PySem.W.mg_of X G g_BadPeople, x_BadPeople, k_BadPeople, e_BadPeople, t_BadPeople⟩,
      y_BadCount := ⟨PySem.W.mg_of X G g_BadCount, ⟨⟨_, _, _, _, _, _, _, _, _, _, _, _, _, _, _, x_BadCount, (show PySem.HandSPX.refsVE [.type "ValueError", .type "Exception", .type "BaseException", .type "object"] = true by decide +kernel)⟩, s_BadCount, e_BadCount, t_BadCount, k_BadCount⟩, ⟨_, _, F1, b1, a_i_BadCount, t_i_BadCount⟩⟩,
      x_BadCount := ⟨ga_BadCount, gg_BadCount, e_BadCount, hd_BadCount⟩,
      f_BadCount_most := f_BadCount_most,
      y_BadTotal := ⟨PySem.W.mg_of X G g_BadTotal, ⟨⟨_, _, _, _, _, _, _, _, _, _, _, _, _, _, _, x_BadTotal, (show PySem.HandSPX.refsVE [.type "ValueError", .type "Exception", .type "BaseException", .type "object"] = true by decide +kernel)⟩, s_BadTotal, e_BadTotal, t_BadTotal, k_BadTotal⟩, ⟨_, _, F2, b2, a_i_BadTotal, t_i_BadTotal⟩⟩,
      x_BadTotal := ⟨ga_BadTotal, gg_BadTotal, e_BadTotal, hd_BadTotal⟩,
      f_BadTotal_most := f_BadTotal_most,
      y_BadCoin := ⟨PySem.W.mg_of X G g_BadCoin, x_BadCoin, k_BadCoin, e_BadCoin, t_BadCoin⟩,
      y_BadUnlike := ⟨PySem.W.mg_of X G g_BadUnlike, x_BadUnlike, k_BadUnlike, e_BadUnlike, t_BadUnlike⟩,
      m_BadPeople_BadPeople := exm_mk e_BadPeople i_BadPeople t_BadPeople m_BadPeople_BadPeople,
      m_BadPeople_BadCount := exm_mk e_BadCount i_BadCount t_BadCount m_BadPeople_BadCount,
      m_BadPeople_BadTotal := exm_mk e_BadTotal i_BadTotal t_BadTotal m_BadPeople_BadTotal,
      m_BadPeople_BadCoin := exm_mk e_BadCoin i_BadCoin t_BadCoin m_BadPeople_BadCoin,
      m_BadPeople_BadUnlike := exm_mk e_BadUnlike i_BadUnlike t_BadUnlike m_BadPeople_BadUnlike,
      m_BadCount_BadPeople := exm_mk e_BadPeople i_BadPeople t_BadPeople m_BadCount_BadPeople,
      m_BadCount_BadCount := exm_mk e_BadCount i_BadCount t_BadCount m_BadCount_BadCount,
      m_BadCount_BadTotal := exm_mk e_BadTotal i_BadTotal t_BadTotal m_BadCount_BadTotal,
      m_BadCount_BadCoin := exm_mk e_BadCoin i_BadCoin t_BadCoin m_BadCount_BadCoin,
      m_BadCount_BadUnlike := exm_mk e_BadUnlike i_BadUnlike t_BadUnlike m_BadCount_BadUnlike,
      m_BadTotal_BadPeople := exm_mk e_BadPeople i_BadPeople t_BadPeople m_BadTotal_BadPeople,
      m_BadTotal_BadCount := exm_mk e_BadCount i_BadCount t_BadCount m_BadTotal_BadCount,
      m_BadTotal_BadTotal := exm_mk e_BadTotal i_BadTotal t_BadTotal m_BadTotal_BadTotal,
      m_BadTotal_BadCoin := exm_mk e_BadCoin i_BadCoin t_BadCoin m_BadTotal_BadCoin,
      m_BadTotal_BadUnlike := exm_mk e_BadUnlike i_BadUnlike t_BadUnlike m_BadTotal_BadUnlike,
      m_BadCoin_BadPeople := exm_mk e_BadPeople i_BadPeople t_BadPeople m_BadCoin_BadPeople,
      m_BadCoin_BadCount := exm_mk e_BadCount i_BadCount t_BadCount m_BadCoin_BadCount,
      m_BadCoin_BadTotal := exm_mk e_BadTotal i_BadTotal t_BadTotal m_BadCoin_BadTotal,
      m_BadCoin_BadCoin := exm_mk e_BadCoin i_BadCoin t_BadCoin m_BadCoin_BadCoin,
      m_BadCoin_BadUnlike := exm_mk e_BadUnlike i_BadUnlike t_BadUnlike m_BadCoin_BadUnlike,
      m_BadUnlike_BadPeople := exm_mk e_BadPeople i_BadPeople t_BadPeople m_BadUnlike_BadPeople,
      m_BadUnlike_BadCount := exm_mk e_BadCount i_BadCount t_BadCount m_BadUnlike_BadCount,
      m_BadUnlike_BadTotal := exm_mk e_BadTotal i_BadTotal t_BadTotal m_BadUnlike_BadTotal,
      m_BadUnlike_BadCoin := exm_mk e_BadCoin i_BadCoin t_BadCoin m_BadUnlike_BadCoin,
      m_BadUnlike_BadUnlike := exm_mk e_BadUnlike i_BadUnlike t_BadUnlike m_BadUnlike_BadUnlike }
  exact ⟨_, fun s v => .of_eq rfl, fun base _ _ => ok_law F38 T⟩
theorem walk {l : PySem.W.OpenLaw} {q : Program} {loose : List Str} {XP : (Str → Option Value) → Heap → Prop} {YP : World → Heap → Prop} {d : DefRec} {K : Params → PySem.W.Frag} (hn : l.most = some 63) (hdf : d.params.defaults = [])
    (hY : ∀ (w : World) (h : Heap), YP w h → (K w.params).In h)
    (F : ∀ (w : World) (mg : Str → Option Value) (fa : Addr) (h : Heap), (K w.params).In h → h.Ns mainGlobals mg → mg d.name = some (.ref fa) →
      ∃ fd : FuncData, (∀ (s : Shared) (u : Value), BindsTo s fd ⟨[u], []⟩ [("_law_script", u)]) ∧ ∀ base : Heap, (K w.params).In base → base.Ns mainGlobals mg → FnOk l.prog w (K w.params) mg base CX0 7 fa fd ["_law_script"] (spLaw (K w.params))) :
    PySem.W.WalkO q loose XP YP l.row.toRowW d [] (fun f vs => PySem.call f vs) :=
  L2.walk_of (n := 63) (k := 7) (x := "_law_script") (CX := fun _ => CX0) (sp := fun w => spLaw (K w.params)) hn (by decide) hdf ⟨rfl, by decide, by decide⟩ hY F (fun _ _ a ns hl _ hS => ⟨a, ns, rfl, hS, hl, fun _ => rfl⟩) fun _ _ _ _ _ z => z
end My
open PySem PySem.W PyProof.Rows
set_option maxRecDepth 100000 in
set_option maxHeartbeats 0 in
theorem PySem.Challenge.cw_anyworths_k20_whole_few_unlike_worths_an_holds : PySem.Challenge.rw_anyworths_k20_whole_few_unlike_worths_an.Holds := by
  w_on; o_law; k_head; (case hw => w_witness2)
  k_fill
  refine My.walk (l := PySem.Challenge.rw_anyworths_k20_whole_few_unlike_worths_an) rfl rfl (fun w h Y => PySem.W.kIn_of Y) ?F
  case F =>
    intro w mg fa h KX G hmg
    refine' My.all_mk KX G hmg ?g_BadPeople ?g_BadCount ?g_BadTotal ?g_BadCoin ?g_BadUnlike ?a_i_BadCount ?l_i_BadCount ?c_i_BadCount ?k_i_BadCount ?t_i_BadCount ?a_i_BadTotal ?l_i_BadTotal ?c_i_BadTotal ?k_i_BadTotal ?t_i_BadTotal ?a_is_number ?l_is_number ?c_is_number ?k_is_number ?a_is_whole ?l_is_whole ?c_is_whole ?k_is_whole ?a_check_people ?l_check_people ?t_check_people ?c_check_people ?k_check_people ?a_up ?l_up ?c_up ?k_up ?a_check_count ?l_check_count ?c_check_count ?k_check_count ?a_check_total ?l_check_total ?c_check_total ?k_check_total ?a_check_coin ?l_check_coin ?c_check_coin ?k_check_coin ?a_room_at ?l_room_at ?c_room_at ?k_room_at ?a_fewest_for ?l_fewest_for ?c_fewest_for ?k_fewest_for ?a_greatest_coin ?l_greatest_coin ?c_greatest_coin ?k_greatest_coin ?a_least_total_with ?l_least_total_with ?c_least_total_with ?k_least_total_with ?a_fewest_with ?l_fewest_with ?c_fewest_with ?k_fewest_with ?a_greatest_unlike ?l_greatest_unlike ?c_greatest_unlike ?k_greatest_unlike ?a_greatest_grown ?l_greatest_grown ?c_greatest_grown ?k_greatest_grown ?a_l_mix ?l_l_mix ?c_l_mix ?k_l_mix ?a_l_hand ?l_l_hand ?c_l_hand ?k_l_hand ?a_l_draw ?l_l_draw ?c_l_draw ?k_l_draw ?a_l_pick ?l_l_pick ?c_l_pick ?k_l_pick ?a_l_is_whole ?l_l_is_whole ?c_l_is_whole ?k_l_is_whole ?a_l_is_coins ?l_l_is_coins ?c_l_is_coins ?k_l_is_coins ?a_l_up ?l_l_up ?c_l_up ?k_l_up ?a_l_serves ?l_l_serves ?c_l_serves ?k_l_serves ?a_l_next ?l_l_next ?c_l_next ?k_l_next ?a_l_great ?l_l_great ?c_l_great ?k_l_great ?a_l_fewest ?l_l_fewest ?c_l_fewest ?k_l_fewest ?a_l_odd_people ?l_l_odd_people ?c_l_odd_people ?k_l_odd_people ?a_l_odd_number ?l_l_odd_number ?c_l_odd_number ?k_l_odd_number ?a_l_grown ?l_l_grown ?c_l_grown ?k_l_grown ?a_l_told ?l_l_told ?c_l_told ?k_l_told ?a_l_best ?l_l_best ?c_l_best ?k_l_best ?a_l_small_right ?l_l_small_right ?c_l_small_right ?k_l_small_right ?a_l_great_right ?l_l_great_right ?c_l_great_right ?k_l_great_right ?a_l_coins_right ?l_l_coins_right ?c_l_coins_right ?k_l_coins_right ?a_l_far_right ?l_l_far_right ?c_l_far_right ?k_l_far_right ?a_l_refusals_right ?l_l_refusals_right ?c_l_refusals_right ?k_l_refusals_right ?a_law ?l_law ?c_law ?k_law ?v_MOST_PEOPLE ?v_GREATEST_COIN ?v_GREATEST_TOTAL ?v_LEAST_PEOPLE ?v_MOST_COINS ?n_isinstance ?n_int ?n_bool ?n_range ?n_sum ?n_enumerate ?n_abs ?n_len ?n_list ?n_sorted ?n_tuple ?n_set ?n_max ?n_min ?k_BadPeople ?e_BadPeople ?t_BadPeople ?i_BadPeople ?x_BadPeople ?k_BadCount ?e_BadCount ?t_BadCount ?i_BadCount ?x_BadCount ?s_BadCount ?ga_BadCount ?gg_BadCount ?hd_BadCount ?f_BadCount_most ?k_BadTotal ?e_BadTotal ?t_BadTotal ?i_BadTotal ?x_BadTotal ?s_BadTotal ?ga_BadTotal ?gg_BadTotal ?hd_BadTotal ?f_BadTotal_most ?k_BadCoin ?e_BadCoin ?t_BadCoin ?i_BadCoin ?x_BadCoin ?k_BadUnlike ?e_BadUnlike ?t_BadUnlike ?i_BadUnlike ?x_BadUnlike ?m_BadPeople_BadPeople ?m_BadPeople_BadCount ?m_BadPeople_BadTotal ?m_BadPeople_BadCoin ?m_BadPeople_BadUnlike ?m_BadCount_BadPeople ?m_BadCount_BadCount ?m_BadCount_BadTotal ?m_BadCount_BadCoin ?m_BadCount_BadUnlike ?m_BadTotal_BadPeople ?m_BadTotal_BadCount ?m_BadTotal_BadTotal ?m_BadTotal_BadCoin ?m_BadTotal_BadUnlike ?m_BadCoin_BadPeople ?m_BadCoin_BadCount ?m_BadCoin_BadTotal ?m_BadCoin_BadCoin ?m_BadCoin_BadUnlike ?m_BadUnlike_BadPeople ?m_BadUnlike_BadCount ?m_BadUnlike_BadTotal ?m_BadUnlike_BadCoin ?m_BadUnlike_BadUnlike
    (case g_BadPeople => k_is)
    (case g_BadCount => k_is)
    (case g_BadTotal => k_is)
    (case g_BadCoin => k_is)
    (case g_BadUnlike => k_is)
    (case a_i_BadCount => k_is)
    (case l_i_BadCount => k_is)
    (case c_i_BadCount => k_is)
    (case k_i_BadCount => k_is)
    (case t_i_BadCount => k_is)
    (case a_i_BadTotal => k_is)
    (case l_i_BadTotal => k_is)
    (case c_i_BadTotal => k_is)
    (case k_i_BadTotal => k_is)
    (case t_i_BadTotal => k_is)
    (case a_is_number => k_is)
    (case l_is_number => k_is)
    (case c_is_number => k_is)
    (case k_is_number => k_is)
    (case a_is_whole => k_is)
    (case l_is_whole => k_is)
    (case c_is_whole => k_is)
    (case k_is_whole => k_is)
    (case a_check_people => k_is)
    (case l_check_people => k_is)
    (case t_check_people => k_is)
    (case c_check_people => k_is)
    (case k_check_people => k_is)
    (case a_up => k_is)
    (case l_up => k_is)
    (case c_up => k_is)
    (case k_up => k_is)
    (case a_check_count => k_is)
    (case l_check_count => k_is)
    (case c_check_count => k_is)
    (case k_check_count => k_is)
    (case a_check_total => k_is)
    (case l_check_total => k_is)
    (case c_check_total => k_is)
    (case k_check_total => k_is)
    (case a_check_coin => k_is)
    (case l_check_coin => k_is)
    (case c_check_coin => k_is)
    (case k_check_coin => k_is)
    (case a_room_at => k_is)
    (case l_room_at => k_is)
    (case c_room_at => k_is)
    (case k_room_at => k_is)
    (case a_fewest_for => k_is)
    (case l_fewest_for => k_is)
    (case c_fewest_for => k_is)
    (case k_fewest_for => k_is)
    (case a_greatest_coin => k_is)
    (case l_greatest_coin => k_is)
    (case c_greatest_coin => k_is)
    (case k_greatest_coin => k_is)
    (case a_least_total_with => k_is)
    (case l_least_total_with => k_is)
    (case c_least_total_with => k_is)
    (case k_least_total_with => k_is)
    (case a_fewest_with => k_is)
    (case l_fewest_with => k_is)
    (case c_fewest_with => k_is)
    (case k_fewest_with => k_is)
    (case a_greatest_unlike => k_is)
    (case l_greatest_unlike => k_is)
    (case c_greatest_unlike => k_is)
    (case k_greatest_unlike => k_is)
    (case a_greatest_grown => k_is)
    (case l_greatest_grown => k_is)
    (case c_greatest_grown => k_is)
    (case k_greatest_grown => k_is)
    (case a_l_mix => k_is)
    (case l_l_mix => k_is)
    (case c_l_mix => k_is)
    (case k_l_mix => k_is)
    (case a_l_hand => k_is)
    (case l_l_hand => k_is)
    (case c_l_hand => k_is)
    (case k_l_hand => k_is)
    (case a_l_draw => k_is)
    (case l_l_draw => k_is)
    (case c_l_draw => k_is)
    (case k_l_draw => k_is)
    (case a_l_pick => k_is)
    (case l_l_pick => k_is)
    (case c_l_pick => k_is)
    (case k_l_pick => k_is)
    (case a_l_is_whole => k_is)
    (case l_l_is_whole => k_is)
    (case c_l_is_whole => k_is)
    (case k_l_is_whole => k_is)
    (case a_l_is_coins => k_is)
    (case l_l_is_coins => k_is)
    (case c_l_is_coins => k_is)
    (case k_l_is_coins => k_is)
    (case a_l_up => k_is)
    (case l_l_up => k_is)
    (case c_l_up => k_is)
    (case k_l_up => k_is)
    (case a_l_serves => k_is)
    (case l_l_serves => k_is)
    (case c_l_serves => k_is)
    (case k_l_serves => k_is)
    (case a_l_next => k_is)
    (case l_l_next => k_is)
    (case c_l_next => k_is)
    (case k_l_next => k_is)
    (case a_l_great => k_is)
    (case l_l_great => k_is)
    (case c_l_great => k_is)
    (case k_l_great => k_is)
    (case a_l_fewest => k_is)
    (case l_l_fewest => k_is)
    (case c_l_fewest => k_is)
    (case k_l_fewest => k_is)
    (case a_l_odd_people => k_is)
    (case l_l_odd_people => k_is)
    (case c_l_odd_people => k_is)
    (case k_l_odd_people => k_is)
    (case a_l_odd_number => k_is)
    (case l_l_odd_number => k_is)
    (case c_l_odd_number => k_is)
    (case k_l_odd_number => k_is)
    (case a_l_grown => k_is)
    (case l_l_grown => k_is)
    (case c_l_grown => k_is)
    (case k_l_grown => k_is)
    (case a_l_told => k_is)
    (case l_l_told => k_is)
    (case c_l_told => k_is)
    (case k_l_told => k_is)
    (case a_l_best => k_is)
    (case l_l_best => k_is)
    (case c_l_best => k_is)
    (case k_l_best => k_is)
    (case a_l_small_right => k_is)
    (case l_l_small_right => k_is)
    (case c_l_small_right => k_is)
    (case k_l_small_right => k_is)
    (case a_l_great_right => k_is)
    (case l_l_great_right => k_is)
    (case c_l_great_right => k_is)
    (case k_l_great_right => k_is)
    (case a_l_coins_right => k_is)
    (case l_l_coins_right => k_is)
    (case c_l_coins_right => k_is)
    (case k_l_coins_right => k_is)
    (case a_l_far_right => k_is)
    (case l_l_far_right => k_is)
    (case c_l_far_right => k_is)
    (case k_l_far_right => k_is)
    (case a_l_refusals_right => k_is)
    (case l_l_refusals_right => k_is)
    (case c_l_refusals_right => k_is)
    (case k_l_refusals_right => k_is)
    (case a_law => k_is)
    (case l_law => k_is)
    (case c_law => k_is)
    (case k_law => k_is)
    (case v_MOST_PEOPLE => k_is)
    (case v_GREATEST_COIN => k_is)
    (case v_GREATEST_TOTAL => k_is)
    (case v_LEAST_PEOPLE => k_is)
    (case v_MOST_COINS => k_is)
    (case n_isinstance => k_is)
    (case n_int => k_is)
    (case n_bool => k_is)
    (case n_range => k_is)
    (case n_sum => k_is)
    (case n_enumerate => k_is)
    (case n_abs => k_is)
    (case n_len => k_is)
    (case n_list => k_is)
    (case n_sorted => k_is)
    (case n_tuple => k_is)
    (case n_set => k_is)
    (case n_max => k_is)
    (case n_min => k_is)
    (case k_BadPeople => k_is)
    (case e_BadPeople => k_is)
    (case t_BadPeople => k_is)
    (case i_BadPeople => k_is)
    (case x_BadPeople => k_exc)
    (case k_BadCount => k_is)
    (case e_BadCount => k_is)
    (case t_BadCount => k_is)
    (case i_BadCount => k_is)
    (case x_BadCount => k_is)
    (case s_BadCount => k_is)
    (case ga_BadCount => k_is)
    (case gg_BadCount => k_is)
    (case hd_BadCount => k_is)
    (case f_BadCount_most => k_is)
    (case k_BadTotal => k_is)
    (case e_BadTotal => k_is)
    (case t_BadTotal => k_is)
    (case i_BadTotal => k_is)
    (case x_BadTotal => k_is)
    (case s_BadTotal => k_is)
    (case ga_BadTotal => k_is)
    (case gg_BadTotal => k_is)
    (case hd_BadTotal => k_is)
    (case f_BadTotal_most => k_is)
    (case k_BadCoin => k_is)
    (case e_BadCoin => k_is)
    (case t_BadCoin => k_is)
    (case i_BadCoin => k_is)
    (case x_BadCoin => k_exc)
    (case k_BadUnlike => k_is)
    (case e_BadUnlike => k_is)
    (case t_BadUnlike => k_is)
    (case i_BadUnlike => k_is)
    (case x_BadUnlike => k_exc)
    (case m_BadPeople_BadPeople => first | rfl | k_is)
    (case m_BadPeople_BadCount => k_is)
    (case m_BadPeople_BadTotal => k_is)
    (case m_BadPeople_BadCoin => k_is)
    (case m_BadPeople_BadUnlike => k_is)
    (case m_BadCount_BadPeople => k_is)
    (case m_BadCount_BadCount => first | rfl | k_is)
    (case m_BadCount_BadTotal => k_is)
    (case m_BadCount_BadCoin => k_is)
    (case m_BadCount_BadUnlike => k_is)
    (case m_BadTotal_BadPeople => k_is)
    (case m_BadTotal_BadCount => k_is)
    (case m_BadTotal_BadTotal => first | rfl | k_is)
    (case m_BadTotal_BadCoin => k_is)
    (case m_BadTotal_BadUnlike => k_is)
    (case m_BadCoin_BadPeople => k_is)
    (case m_BadCoin_BadCount => k_is)
    (case m_BadCoin_BadTotal => k_is)
    (case m_BadCoin_BadCoin => first | rfl | k_is)
    (case m_BadCoin_BadUnlike => k_is)
    (case m_BadUnlike_BadPeople => k_is)
    (case m_BadUnlike_BadCount => k_is)
    (case m_BadUnlike_BadTotal => k_is)
    (case m_BadUnlike_BadCoin => k_is)
    (case m_BadUnlike_BadUnlike => first | rfl | k_is)

