import PyProof.Rows.All
import Wide.All
import OpenK.AllK
import Wide.FinOn
import HandS.ForMost
import HandS.IsInst
import HandS.Walk
import HandS.Zip
import HandS.TupAny
import HandS.Style
import HandS.TryOnly
import HandS.More
import KE.GoesEnum
import KE.DatumOrd
import PyProof.Rows.FactsN_isinstance
import PyProof.Rows.SortShell
import HandS.ExcInit
import HandS.Small
import HandS.MakeKwOnly
import KE.KExcInit
import KE.KExcIs
import KE.DataFind
import PySem.Challenge.RW_handshakes_k15_errors_by_hand
set_option Elab.async false
set_option linter.all false
set_option maxRecDepth 100000
set_option maxHeartbeats 4000000
/-! A layer of my own over HandS: tuples and data that stand still, enumerate over a tuple. -/
namespace Hs
open PySem PySem.Spec PyProof.Rows L2

/-! ### what stands still -/
theorem same_tup {K : PySem.W.Frag} {H G : Hp} {a : Addr} {xs : List V} (e : Same H G) (h : SqT K H a xs) : SqT K G a xs := by
  rcases h with (h | ⟨o, h⟩) | h
  · exact .inl (.inl (e _ _ h))
  · exact .inl (.inr ⟨o, e _ _ h⟩)
  · exact .inr h
theorem same_new {H : Hp} {p : Addr} {o : HO} (h : H p = none) : Same H (upd H p o) := fun b x q => by
  rw [upd_ne (ne_of_none q h)]; exact q
mutual
theorem same_dp {K : PySem.W.Frag} {H G : Hp} (e : Same H G) : ∀ {d : PyData} {v : V}, Dp K H v d → Dp K G v d
  | .none, _, h => by cases h; exact .non
  | .bool b, _, h => by cases h; exact .bl b
  | .int i, _, h => by cases h; exact .int i
  | .str x, _, h => by cases h; exact .str x
  | .list ds, _, h => by cases h with | lst q r => exact .lst (e.seq q) (same_dps e r)
  | .tuple ds, _, h => by cases h with | tup q r => exact .tup (same_tup e q) (same_dps e r)
  | .dict _, _, h => by cases h
theorem same_dps {K : PySem.W.Frag} {H G : Hp} (e : Same H G) : ∀ {ds : List PyData} {vs : List V}, DpAll K H vs ds → DpAll K G vs ds
  | [], _, h => by cases h; exact .nil
  | _ :: _, _, h => by cases h with | cons q r => exact .cons (same_dp e q) (same_dps e r)
end

/-! ### enumerate(v), v begun by any iterator -/
set_option maxHeartbeats 1000000 in
theorem meets_en1 {v : Value} {o : Obj} {G : Heap → Prop} (B : Begins v o G) :
    Meets (Builtin.«enumerate.__new__» ⟨[.type "enumerate", v], []⟩) (fun _ R s => G s.heap ∧
      R (.ok (.ret (.ref (s.heap.push o).objs.size))) { s with heap := (s.heap.push o).push { cls := .type "enumerate", data := .fields #[.none, .bool false, .ref s.heap.objs.size, rawInt 0, .none, .none] } }) :=
  .of_wp fun prog w A R s h => by
    obtain ⟨hp, g, d, tk, os⟩ := s
    obtain ⟨hG, hR⟩ := h
    have hsub := sub_enumerate
    have goes : ∀ {A' : Around} {E : Value → Shared → Prop} {Q : Value → Shared → Prop}, Q (.ref hp.objs.size) ⟨hp.push o, g, d, tk, os⟩ → wpAny (model prog w) A' (pyIter v) Q E ⟨hp, g, d, tk, os⟩ := fun q => B.iter prog w _ _ ⟨hp, g, d, tk, os⟩ _ hG q
    wp_walk using goes
    refine wpAny_stack_any fun st => wpAny_pure ?_
    split
    · rename_i c _ _ _ _ _
      cases (c == Value.type "enumerate")
      all_goals (wp_walk using goes; exact ⟨_, rfl, hR⟩)
    · wp_walk using goes; exact ⟨_, rfl, hR⟩
section
variable {prog : Program} {w : World} {A : Around} {E : Value → Shared → Prop} {s : Shared}
theorem en1_begins {v : Value} {o : Obj} {G : Heap → Prop} {Q : Value → Shared → Prop} (B : Begins v o G) (hG : G s.heap)
    (h : ∀ k, IsEnum k (s.heap.objs.size + 1) s.heap.objs.size 0 .none → k.get? s.heap.objs.size = some o → (∀ b u, s.heap.get? b = some u → k.get? b = some u) → Q (.ref (s.heap.objs.size + 1)) { s with heap := k }) :
    wpAny (model prog w) A (call (.type "enumerate") [v]) Q E s := by
  refine callType_new F.called_enumerate (by decide) (F.typeCall_enumerate_1 _) (F.newCall_enumerate_1 _) (fun obj => F.args_object_init_2 obj _) F.entry_enumerate_new (meets_en1 B) ⟨hG, ?_⟩
  have sz : (s.heap.push o).objs.size = s.heap.objs.size + 1 := Heap.size_push ..
  show _ ∧ _
  rw [sz]
  have isE : IsEnum ((s.heap.push o).push { cls := .type "enumerate", data := .fields #[.none, .bool false, .ref s.heap.objs.size, rawInt 0, .none, .none] }) (s.heap.objs.size + 1) s.heap.objs.size 0 .none := by
    have q := Heap.get?_push_size (s.heap.push o) (o := { cls := .type "enumerate", data := .fields #[.none, .bool false, .ref s.heap.objs.size, rawInt 0, .none, .none] }) rfl
    rw [sz] at q; exact q
  exact ⟨⟨_, isE, rfl⟩, h _ isE (Heap.get?_push_of_some _ (Heap.get?_push_size _ B.free)) fun b u x => Heap.get?_push_of_some _ (Heap.get?_push_of_some _ x)⟩
end

/-! ### for i, x in enumerate(tuple) -/
/-- the tuple at a, each item in a new pair -/
def Iet (K : PySem.W.Frag) (a : Addr) : It where
  go := fun i H => ∃ (xs : List V) (x : V), SqT K H a xs ∧ xs[i]? = some x
  yld := fun i H v G => ∃ T x, v = .ref T ∧ H T = none ∧ G = upd H T (.tup [.int (i : Nat), x]) ∧ ∀ xs, SqT K H a xs → xs[i]? = some x
  stop := fun i H => ∃ xs : List V, SqT K H a xs ∧ xs.length ≤ i
theorem turn_en {P : Program} {w : World} {K : PySem.W.Frag} {elts : List Expr} {kk : Nat} {tpos : Pos} (a e it : Addr) (hai : a ≠ it) (hae : a ≠ e) :
    Turn P w K (.Tuple elts kk tpos) (Iet K a) [e, it] e (fun i h => (∃ old, IsEnum h e it ((i : Nat) : Int) old) ∧ h.IsTupleIter it a i ∧ e ≠ it) where
  mem := by simp
  obj := fun i h st b hb => by
    obtain ⟨⟨old, he⟩, ⟨o, ho, hc, hd⟩, _⟩ := st
    rcases (show b = e ∨ b = it by simpa using hb) with rfl | rfl
    · exact ⟨_, he, fun v q => nomatch q⟩
    · exact ⟨o, ho, fun v q => by rw [hd] at q; cases q⟩
  keep := fun i h h' st k => by
    obtain ⟨⟨old, he⟩, hi, ne⟩ := st
    exact ⟨⟨old, k e (by simp) _ he⟩, hi.at fun o q => k it (by simp) o q, ne⟩
  item := by
    intro X hP hw hK hc i pins s σ H E I hf st hg
    subst hP hw hK
    obtain ⟨⟨old, he⟩, hit, hne⟩ := st
    obtain ⟨xs, x, hq, hx⟩ := hg
    obtain ⟨its, rv, p, hz⟩ := I.tuple hq
    obtain ⟨u, hu, ru⟩ := rv.get hx
    have ltE : e < s.heap.objs.size := Heap.lt_size he
    have ltI : it < s.heap.objs.size := by obtain ⟨_, q, _⟩ := hit; exact Heap.lt_size q
    have D := Draws.tuple (prog := X.prog) (w := X.w) (A := X.A.in1) (I.ok.hd hc) it a hai its.toArray
    have nf : e ∉ [it, a] := by
      intro z
      rcases (show e = it ∨ e = a by simpa using z) with z | z
      · exact hne z
      · exact hae z.symm
    refine wpAny_pyNext_enum_itemD D he ⟨hit, p⟩ (by simpa using (List.getElem?_eq_some_iff.mp hu).1) hne nf fun y h' tk hy ho hst hT hsz hk => ?_
    have ey : y = u := by
      have z : its.toArray[i]? = some y := hy
      have z2 : its.toArray[i]? = some u := by simpa using hu
      exact Option.some.inj (z.symm.trans z2)
    subst ey
    refine ⟨_, rfl, wpAny_letOwnedTupleGo_enum (s := { s with heap := h', toks := tk + 1 }) ho fun h'' he' sb => ?_⟩
    have hT2 : h''.get? s.heap.objs.size = some { cls := .type "tuple", data := .seq #[.int i tk, y] } := (sb.2 _ (Nat.ne_of_gt ltE)).trans hT
    have new : ObjOk X.prog X.w (upd H s.heap.objs.size (.tup [.int (i : Nat), x])) h'' s.heap.objs.size (.tup [.int (i : Nat), x]) :=
      ⟨by show 2 ≤ sizeLine; decide, [.int i tk, y], .cons ⟨_, rfl⟩ (.cons ru .nil), ⟨_, hT2, rfl, _, rfl⟩⟩
    have J : Inv X pins σ (upd H s.heap.objs.size (.tup [.int (i : Nat), x])) { s with heap := h'', toks := tk + 1 } := by
      refine I.turnedNew (ch := [e, it]) (fun b ob hb q => ?_) hf (Nat.le_refl _) new
      have h1 : b ≠ e := fun z => hb (by simp [z])
      have h2 : b ≠ it := fun z => hb (by simp [z])
      exact (sb.2 b h1).trans (hk b ob h1 h2 q)
    refine ⟨.ref s.heap.objs.size, _, J, rfl, ⟨_, x, rfl, I.hok.fresh (Nat.le_refl _), rfl, fun ys hy => by rw [I.tuple_inj hy hq]; exact hx⟩, ⟨⟨y, ?_⟩, hst.1.at fun o q => (sb.2 it (Ne.symm hne)).trans q, hne⟩, fun b hb => ?_⟩
    · have e1 : ((i + 1 : Nat) : Int) = (i : Int) + 1 := by omega
      rw [e1]; exact he'
    · have lt : b < s.heap.objs.size := by
        rcases (show b = e ∨ b = it by simpa using hb) with rfl | rfl
        · exact ltE
        · exact ltI
      rw [upd_ne (Nat.ne_of_lt lt)]
      exact (hf b hb).1
  done := by
    intro X hP hw hK hc i pins s σ H E I hf st hg
    subst hP hw hK
    obtain ⟨⟨old, he⟩, hit, hne⟩ := st
    obtain ⟨xs, hq, hx⟩ := hg
    obtain ⟨its, rv, p, hz⟩ := I.tuple hq
    obtain ⟨f0, f1, f2, f3, f4, f5⟩ := hf it (by simp)
    have hT : s.TypeIs (.ref e) "enumerate" := ⟨_, he, rfl⟩
    have hl := rv.length
    unfold pyNext
    refine wpAny_bind (wpAny_attempt (wpAny_callSpecial?_slot (name := Str.ofString "__next__") hT F.slot_enumerate_next (wpAny_call_entry F.slot_enumerate_next hT F.entry_enumerate_next ?_ (F.args_enumerate_next_1 _))))
    show wpAny _ _ (field (.ref e) 2 >>= _) _ _ _
    refine wpAny_bind (wpAny_field he rfl (x := .ref it) rfl ?_)
    refine wpAny_bind (wpAny_nextOf_tuple_end (I.ok.hd hc) hit p (by simp; omega) fun h' x eb hx' => ?_)
    obtain ⟨o, ho, hco⟩ := hx'
    refine wpAny_bind (wpAny_isInstance (T := "StopIteration") (b := true) ⟨o, ho, hco⟩ isSubtype_stop ?_)
    exact wpAny_pure ⟨rfl, I.turned (t' := s.toks) (fun b ob hb q => eb b ob hb q) f0 f1 f3 f4 f5⟩
  self := fun A i s Q E st h => by
    obtain ⟨⟨_, he⟩, _⟩ := st
    exact wpAny_pyIter_enum he h
def iEnT (K : PySem.W.Frag) (ta : TA) : TI := fun σ H R => ta σ H fun vs G => ∃ a xs, vs = [.ref a] ∧ SqT K G a xs ∧ R (Iet K a) G
theorem pi_enT {X : Cx} {e : Expr} {ta : TA} {p pos tpos : Pos} {elts : List Expr} {kk : Nat} (hg : Gl X "enumerate") (hm : X.mg "enumerate" = none) (ha : PA X [e] ta) (hs : starEach [e] X.env = [(false, eval e X.env)] := by rfl) :
    PI X (.Tuple elts kk tpos) (.Call (.Name "enumerate" p) [e] [] pos) (iEnT X.K ta) := by
  refine ⟨fun pins s σ H R I h => ?_⟩
  refine Call_ (ld_blt I hg hm boot_enumerate (PyProof.Rows.callWith_type1 (thn (ha.run pos pins s σ H _ I h) fun us s1 hh => ?_) hs rfl))
  obtain ⟨vs, G, J, r1, a, xs, ex, hq, q⟩ := hh
  subst ex
  cases r1 with
  | cons r rr =>
    cases rr
    cases r
    obtain ⟨its, rv, p', hz⟩ := J.tuple hq
    have al : a < s1.heap.objs.size := p'.lt
    refine en1_begins (begins_tuple a its.toArray) p' fun k hk hi hkeep => wpAny_pyIter_enum hk ?_
    have J2 : Inv X pins σ G { s1 with heap := k } := J.kept (t' := s1.toks) hkeep
    refine ⟨s1.heap.objs.size + 1, [s1.heap.objs.size + 1, s1.heap.objs.size], _, _, G, rfl, J2, turn_en a _ _ (Nat.ne_of_lt al) (Nat.ne_of_lt (Nat.lt_succ_of_lt al)), ⟨⟨.none, hk⟩, ⟨_, hi, rfl, rfl⟩, Nat.succ_ne_self _⟩, fun b hb => ?_, q⟩
    have le : s1.heap.objs.size ≤ b := by
      rcases (show b = s1.heap.objs.size + 1 ∨ b = s1.heap.objs.size by simpa using hb) with z | z
      · rw [z]; exact Nat.le_succ _
      · rw [z]; exact Nat.le_refl _
    exact J.fpOk le (J.hok.fresh le)
theorem walk_enT {K : PySem.W.Frag} {a : Addr} {xs : List V} : Walk (Iet K a) xs.length (fun H => SqT K H a xs) (YPair (fun i => some (.int (i : Nat))) fun i => xs[i]?) := by
  refine ⟨fun i H hi q => ⟨xs, xs[i], q, by simp [hi]⟩, fun H q => ⟨xs, q, Nat.le_refl _⟩, fun i H v G _ q y => ?_⟩
  obtain ⟨T, x, e1, e2, e3, f⟩ := y
  exact ⟨T, _, x, e1, e2, e3, rfl, f _ q⟩
end Hs

set_option Elab.async false
set_option linter.all false
set_option maxRecDepth 100000
set_option maxHeartbeats 4000000
/-! Defs that are run while no repr is under way: FnG, as FnOk but for the guards. -/
namespace Hs
open PySem PySem.Spec PyProof.Rows L2
structure FnG (P : Program) (w : World) (K : PySem.W.Frag) (mg : Str → Option Value) (base : Heap) (CX : CXT) (k : Nat) (f : Addr) (fd : FuncData) (ps : List Str) (sp : Sp) : Prop where
  len : ∀ xs G R T, sp xs G R T → xs.length = ps.length
  run : ∀ (B : Around) (out : List Env) (t : Shared) (G : Hp) (args : Args) (us : List Value) (xs : List V) (R : VK) (T : XK), B.guards = some [] → Room k B → Env0 P w K mg base B out t G → BindsTo t fd args (ps.zip us) → Vals xs us → sp xs G R T →
    codeAny (model P w) B (.call (.ref f) args) (CR CX out P w G t R T) t
section
variable {P : Program} {w : World} {K : PySem.W.Frag} {mg : Str → Option Value} {base : Heap} {CX : CXT}
theorem fng_of {k : Nat} {f : Addr} {name qual : Str} {params : Arguments} {body : List Stmt} {scope : Scope} {dV kV doc pm cdv ct oc : Value} {an od : Option Addr} {osl : Array (Option Value)} {N ps : List Str} {sp : Sp}
    (lk : K.lookup f = some ⟨oc, od, .func (PySem.W.fnOf name qual params body scope dV kV doc pm an cdv ct), osl⟩) (code : PySem.W.codeIn K cdv qual = true) (S : FnScope N ps scope) (len : ∀ xs G R T, sp xs G R T → xs.length = ps.length)
    (hb : ∀ (B : Around) (out : List Env) (t : Shared) (G : Hp) (xs : List V) (R : VK) (T : XK), B.guards = some [] → Room k (B.deeper (envOfC qual scope t.heap.objs.size f cdv)) → sp xs G R T →
      ∃ r, PSs (cxOf CX P w K mg base N qual scope f cdv B out t G T) body r ∧ r { nx := fun _ G' => R .non G', rt := R } (start N xs) G) :
    FnG P w K mg base CX (k + 1) f (PySem.W.fnOf name qual params body scope dV kV doc pm an cdv ct) ps sp := by
  refine ⟨len, fun B out t G args us xs R T hg room e0 bind rel hsp => ?_⟩
  have KX : K.In t.heap := e0.mod.kin.keeps fun b o q => (e0.bs b o q).1
  have lim : t.heap.NoLimit := e0.mod.nolimit.keeps fun b o q => (e0.bs b o q).1
  have kinds : ∀ y ∈ ps.zip us, scope.names.lookup y.1 = some .local ∨ (scope.names.lookup y.1 = some .cell ∧ ((cellsFrom (t.heap.objs.size + 1) scope.names []).lookup y.1).isSome = true) := by
    rintro ⟨n, v⟩ hy
    rcases S.par n (List.of_mem_zip hy).1 with q | q
    · exact .inl q
    · exact .inr ⟨q, PySem.W.cellsFrom_some _ _ _ (.inl q)⟩
  refine codeAny_call_function room.depth (KX _ _ lk) rfl S.co S.gen rfl (PySem.W.codeRec_of KX code) (bind _ _ _ _ (wpAny_newFunctionEnv_cells S.kind kinds fun env he s1 x => ?_))
  subst he
  refine ⟨lim.keeps x.toInCall.keep, codeAny_func ?_⟩
  obtain ⟨r, hr, hq⟩ := hb B out t G xs R T hg (room.deeper _) hsp
  have I : Inv (cxOf CX P w K mg base N qual scope f cdv B out t G T) [] (start N xs) G s1 := inv_start S room.hd e0 (len _ _ _ _ hsp) rel x
  refine wpAny_mono (hr.run [] s1 (start N xs) G _ I hq) (fun fl s' z => ?_) fun _ _ z => z
  cases fl with
  | ret u => obtain ⟨v, σ', G', J, rv, q⟩ := z; exact ⟨v, G', J.os, J.bare, J.base, J.hok, rv, q⟩
  | next => obtain ⟨σ', G', J, q⟩ := z; exact ⟨V.non, G', J.os, J.bare, J.base, J.hok, rfl, q⟩
  | brk => obtain ⟨_, _, _, q⟩ := z; exact q.elim
  | cont => obtain ⟨_, _, _, q⟩ := z; exact q.elim
theorem fun_okG {x qual : Str} {st : Stmt} {f : Addr} {fd : FuncData} {N ps : List Str} {k : Nat} {sp : Sp} (F : Fun K x qual st f fd) (S : FnScope N ps (defScope st)) (len : ∀ xs G R T, sp xs G R T → xs.length = ps.length)
    (hb : ∀ (cdv : Value) (B : Around) (out : List Env) (t : Shared) (G : Hp) (xs : List V) (R : VK) (T : XK), B.guards = some [] → Room k (B.deeper (envOfC qual (defScope st) t.heap.objs.size f cdv)) → sp xs G R T →
      ∃ r, PSs (cxOf CX0 P w K mg base N qual (defScope st) f cdv B out t G T).nox (defBody st) r ∧ r { nx := fun _ G' => R .non G', rt := R } (start N xs) G) : FnG P w K mg base CX0 (k + 1) f fd ps sp := by
  obtain ⟨oc, od, kV, doc, pm, an, cdv, ct, osl, rfl, lk, hcd⟩ := F.ex
  refine fng_of lk hcd S len fun B out t G xs R T hg hr hsp => ?_
  obtain ⟨r, h, q⟩ := hb cdv B out t G xs R T hg hr hsp
  exact ⟨r, h.nox, q⟩
end
section
variable {X : Cx} {CX : CXT} {k : Nat} {f : Addr} {fd : FuncData} {ps : List Str} {sp : Sp} {E : XK} {x : Str} {p pos : Pos} {e : Expr} {es : List Expr} {t : TA}
theorem pe_callG (F : FnG X.prog X.w X.K X.mg X.base CX k f fd ps sp) (gd : X.A.guards = some []) (room : Room k X.A) (hg : Gl X x) (hm : X.mg x = some (.ref f)) (hk : PySem.W.keepIn X.K (.ref f) = true) (hb : Binds X.K fd ps []) (hx : Passes CX X E) (ha : PA X (e :: es) t)
    (hdb : (x == ("__debug__" : Str)) = false := by decide) (he : starEach (e :: es) X.env = (false, eval e X.env) :: starEach es X.env := by rfl) (hpl : (backTo pos (starEach es X.env)).any (·.1) = false := by rfl) :
    PE X (.Call (.Name x p) (e :: es) [] pos) (tCall sp [] E t) := by
  refine ⟨fun pins s σ H Q I h => ?_⟩
  refine wpAny_Call_Name_kw (ld_glob I hg hm ?_ hdb)
  refine PySem.W.callWith_K (h₀ := X.base) I.ok.mod.kin hk (thn (ha.run pos pins s σ H _ I h) fun us s1 z => ?_) he hpl
  obtain ⟨vs, G, J, rel, q⟩ := z
  refine ⟨J.kIn, ?_⟩
  have r2 : Vals (vs ++ []) (us ++ []) := rel.append .nil
  have hl : (us ++ []).length = ps.length := by rw [← r2.length]; exact F.len _ _ _ _ q
  refine wpAny_call (codeAny_mono (F.run X.A X.stack s1 G ⟨us, []⟩ (us ++ []) (vs ++ []) Q E gd room J.env0 (hb s1 us J.kIn hl) r2 q) fun r s' hq => ?_)
  cases r with
  | error er => exact hx pins σ G s1 er s' J hq
  | ok fl =>
    cases fl with
    | ret u => exact J.after hq
    | next => exact False.elim hq
    | brk => exact False.elim hq
    | cont => exact False.elim hq
end

/-! ### the law's call -/
theorem law_callG {P : Program} {w : World} {K : PySem.W.Frag} {mg mb : Str → Option Value} {k : Nat} {fa a : Addr} {fd : FuncData} {x : Str} {sp : Sp} {t : Shared} {vs : List Value} {ns : List Int}
    (KX : K.In t.heap) (hns : t.heap.Ns mainGlobals mg) (hb : t.heap.Ns builtinsNs mb) (hbb : ∀ y : Str, y ≠ "__name__" → mb y = bootBuiltins y) (hlim : t.heap.NoLimit) (hgen : t.gens = #[])
    (ha : t.heap.get? a = some { cls := .type "list", data := .seq vs.toArray }) (hi : IntsAre vs ns) (hl : ns.length ≤ sizeLine) (room : Room k callerA)
    (F : ∀ base : Heap, K.In base → base.Ns mainGlobals mg → FnG P w K mg base CX0 k fa fd [x] sp) (hbind : ∀ (s : Shared) (u : Value), BindsTo s fd ⟨[u], []⟩ [(x, u)])
    (hsp : ∀ H : Hp, Only H → SqL K H a (ns.map V.int) → sp [.ref a] H (fun v _ => v = .bl true) fun _ _ _ => False) :
    codeAny (model P w) callerA (.call (.ref fa) ⟨[.ref a], []⟩) (fun r s' => r = .ok (.ret (.bool true)) ∧ OldK t.heap s'.heap ∧ s'.os = t.os ∧ AllBare s'.gens) t := by
  have rv := vals_ints hi
  have lenV := hi.length
  have core : ∀ H : Hp, Only H → SqL K H a (ns.map V.int) → HOk P w H t.heap → (∀ b, H b ≠ none → b = a) → (H a ≠ none → K.lookup a = none) →
      codeAny (model P w) callerA (.call (.ref fa) ⟨[.ref a], []⟩) (fun r s' => r = .ok (.ret (.bool true)) ∧ OldK t.heap s'.heap ∧ s'.os = t.os ∧ AllBare s'.gens) t := by
    intro H only sq hok atA noK
    have keepB : ∀ {b : Addr} {o : Obj}, t.heap.get? b = some o → H b = none → (hidT t.heap H).get? b = some o := fun q n => hidT_get q n
    have dictN : ∀ {b : Addr} {o : Obj} {es : Array DictEntry} {ep : Nat}, t.heap.get? b = some o → o.data = .dict es ep → H b = none := by
      intro b o es ep q d
      cases z : H b with
      | none => rfl
      | some u =>
        have e := atA b (by rw [z]; simp)
        subst e
        rw [ha] at q; cases q
        exact nomatch (show Data.seq vs.toArray _ = Data.dict es ep from d)
    have nsK : ∀ {b : Addr} {m : Str → Option Value}, t.heap.Ns b m → (hidT t.heap H).Ns b m := by
      rintro b m ⟨o, es, ep, q, d, r⟩
      exact ⟨o, es, ep, keepB q (dictN q d), d, r⟩
    have inB : K.In (hidT t.heap H) := by
      intro b o q
      refine keepB (KX b o q) ?_
      cases z : H b with
      | none => rfl
      | some u =>
        have e := atA b (by rw [z]; simp)
        subst e
        rw [noK (by rw [z]; simp)] at q; cases q
    have hM : Mod K mg (hidT t.heap H) := by
      obtain ⟨mc, h1, h2⟩ := hlim
      exact ⟨inB, nsK hns, ⟨mb, nsK hb, hbb⟩, ⟨mc, nsK h1, h2⟩⟩
    have e0 : Env0 P w K mg (hidT t.heap H) callerA [] t H := by
      refine ⟨rfl, hM, fun b o q => of_hidT q, Nat.le_of_eq (hidT_size _ _), trivial, fun b z => ?_, hok, .of_eq hgen⟩
      exact absurd (show b ∈ ([] : List Addr) from z) (by simp)
    refine codeAny_mono ((F _ inB (nsK hns)).run callerA [] t H ⟨[.ref a], []⟩ [.ref a] [.ref a] _ _ rfl room e0 (hbind t (.ref a)) (.cons rfl .nil) (hsp H only sq)) fun r s' z => ?_
    cases r with
    | error er => exact False.elim z
    | ok fl =>
      cases fl with
      | next => exact False.elim z
      | brk => exact False.elim z
      | cont => exact False.elim z
      | ret u =>
        obtain ⟨v, G, os, bare, un, hokG, rel, q⟩ := z
        have q' : v = .bl true := q
        subst q'
        obtain rfl : u = Value.bool true := rel
        refine ⟨rfl, OldK.of_keep fun b o e => ?_, os, bare⟩
        cases zb : H b with
        | none => exact un.keep b o e zb (fun y => absurd (show b ∈ ([] : List Addr) from y) (by simp)) (by simp)
        | some y =>
          rcases only b with n | ⟨ob, ys, n⟩
          · rw [zb] at n; cases n
          · obtain ⟨e1, _⟩ := hok b _ n
            obtain ⟨e2, _⟩ := hokG b _ (un.frzs b ob _ n)
            rw [e] at e1; cases e1
            exact e2
  cases hk : K.lookup a with
  | some o =>
    have q := KX a o hk
    rw [ha] at q
    cases q
    refine core (fun _ => none) (fun _ => .inl rfl) (.inr ⟨_, vs.toArray, _, hk, rfl, rfl, rfl, ?_, by simpa using rv⟩) (fun b u z => nomatch (show (none : Option HO) = some u from z)) (fun b z => absurd rfl z) fun z => absurd rfl z
    rw [List.size_toArray, lenV]; exact hl
  | none =>
    refine core (fun b => if b = a then some (.frz { cls := .type "list", data := .seq vs.toArray } (.lst (ns.map V.int))) else none) (fun b => ?_) (.inl (.inr ⟨_, if_pos rfl⟩)) (fun b u z => ?_) (fun b z => ?_) fun _ => hk
    · by_cases e : b = a
      · exact .inr ⟨_, _, if_pos e⟩
      · exact .inl (if_neg e)
    · by_cases e : b = a
      · have y := (if_pos e).symm.trans z
        cases y
        subst e
        exact ⟨ha, by rw [List.length_map]; exact hl, vs, _, rv, ha⟩
      · exact nomatch (show none = some u from (if_neg e).symm.trans z)
    · by_cases e : b = a
      · exact e
      · exact absurd (if_neg e) z
theorem walk_ofG {l : PySem.W.OpenLaw} {n k : Nat} {q : Program} {loose : List Str} {XP : (Str → Option Value) → Heap → Prop} {YP : World → Heap → Prop} {d : DefRec} {K : Params → PySem.W.Frag} {sp : World → Sp} {x : Str}
    (hn : l.most = some n) (hn2 : n ≤ sizeLine) (hdf : d.params.defaults = []) (room : Room k callerA) (hY : ∀ (w : World) (h : Heap), YP w h → (K w.params).In h)
    (F : ∀ (w : World) (mg : Str → Option Value) (fa : Addr) (h : Heap), (K w.params).In h → h.Ns mainGlobals mg → mg d.name = some (.ref fa) →
      ∃ fd : FuncData, (∀ (s : Shared) (u : Value), BindsTo s fd ⟨[u], []⟩ [(x, u)]) ∧ ∀ base : Heap, (K w.params).In base → base.Ns mainGlobals mg → FnG l.prog w (K w.params) mg base CX0 k fa fd [x] (sp w))
    (hsp : ∀ (w : World) (H : Hp) (a : Addr) (ns : List Int), ns.length ≤ n → Only H → SqL (K w.params) H a (ns.map V.int) → sp w [.ref a] H (fun v _ => v = .bl true) fun _ _ _ => False) :
    PySem.W.WalkO q loose XP YP l.row.toRowW d [] (fun f vs => PySem.call f vs) := by
  refine Att.attach_call hn hdf fun w s₀ s₁ mg mb fa o pm cd doc a vs ns G Y ho hd hcd hmg hobj hints hlen hg => ?_
  have KX := hY w _ Y
  obtain ⟨fd, bnd, hF⟩ := F w mg fa _ KX G.T.g hmg
  exact law_callG KX G.T.g G.T.b G.T.builtins G.T.nolimit hg hobj hints (Nat.le_trans hlen hn2) room hF bnd fun H hO hS => hsp w H a ns hlen hO hS

/-! ### repr of data -/
theorem call_reprD {X : Cx} (gd : X.A.guards = some []) (hu : X.A.units + 64 < cLine) : CallR X (.builtin "repr") (fun xs H Q => ∃ v d, xs = [v] ∧ Dp X.K H v d ∧ d.showable = true ∧ d.hasDict = false ∧ d.depth < 60 ∧ d.shown.length ≤ sizeLine ∧ Q (.str d.shown) H) := by
  intro pins s σ H xs us Q I r h
  obtain ⟨v, d, rfl, hd, sh, nd, dp, sz, q⟩ := h
  obtain ⟨u, rfl, ru⟩ := vals1 r
  cases hd with
  | non => cases ru; exact PySem.P.repr_of_none ⟨.str _, H, I.tok _, ⟨_, rfl⟩, q⟩
  | bl b => cases ru; exact PySem.P.repr_of_bool ⟨.str _, H, I.tok _, ⟨_, rfl⟩, q⟩
  | int i => obtain ⟨t, rfl⟩ := ru; exact PySem.P.repr_of_int (of_decide_eq_true sh) ⟨.str _, H, I.tok _, ⟨_, rfl⟩, q⟩
  | str x => obtain ⟨t, rfl⟩ := ru; exact PySem.P.repr_of_str ⟨.str _, H, I.tok _, ⟨_, rfl⟩, q⟩ sz
  | lst hs ha =>
    cases ru
    obtain ⟨as, rr⟩ := Dp.reads I _ _ _ (Dp.lst hs ha) rfl
    exact repr_of_reads' rr sh (fun z => by rw [nd] at z; cases z) gd (by omega) (fun _ _ e => e) (fun h' u tk hk => ⟨.str _, H, I.kept (t' := tk) hk, ⟨_, rfl⟩, q⟩) sz
  | tup hs ha =>
    cases ru
    obtain ⟨as, rr⟩ := Dp.reads I _ _ _ (Dp.tup hs ha) rfl
    exact repr_of_reads' rr sh (fun z => by rw [nd] at z; cases z) gd (by omega) (fun _ _ e => e) (fun h' u tk hk => ⟨.str _, H, I.kept (t' := tk) hk, ⟨_, rfl⟩, q⟩) sz
end Hs

set_option Elab.async false
set_option linter.all false
set_option maxRecDepth 100000
set_option maxHeartbeats 4000000
/-! Data: kinds, isinstance; the names of built-ins that a text leaves alone. -/
namespace Hs
open PySem PySem.Spec PyProof.Rows L2
/-- the built-in class of data -/
def tyD : PyData → String
  | .none => "NoneType" | .bool _ => "bool" | .int _ => "int" | .str _ => "str" | .list _ => "list" | .tuple _ => "tuple" | .dict _ => "dict"
theorem dp_ty {K : PySem.W.Frag} {H : Hp} {v : V} {d : PyData} (h : Dp K H v d) : TyX K H v (.type (tyD d)) := by
  cases h with
  | non => exact .base .non
  | bl b => exact .base (.bl b)
  | int i => exact .base (.int i)
  | str x => exact .base (.str x)
  | lst q _ =>
    rcases q with (q | ⟨o, q⟩) | ⟨o, its, n, q, c, _⟩
    · exact .base (.lst q)
    · exact .base (.frz q)
    · exact .kList q c
  | tup q _ =>
    rcases q with (q | ⟨o, q⟩) | ⟨o, its, n, q, c, _⟩
    · exact .base (.tup q)
    · exact .fTuple q
    · exact .kTuple q c
def isI : PyData → Bool | .int _ => true | .bool _ => true | _ => false
def isB : PyData → Bool | .bool _ => true | _ => false
def isL : PyData → Bool | .list _ => true | _ => false
def isT : PyData → Bool | .tuple _ => true | _ => false
def isS : PyData → Bool | .str _ => true | _ => false
/-- a number: an int that is no bool -/
def isN : PyData → Bool | .int _ => true | _ => false
theorem kit_int (d : PyData) : kitB (tyD d) "int" = some (isI d) := by
  cases d with
  | none => exact (by decide +kernel : kitB "NoneType" "int" = some false)
  | bool _ => exact (by decide +kernel : kitB "bool" "int" = some true)
  | int _ => exact (by decide +kernel : kitB "int" "int" = some true)
  | str _ => exact (by decide +kernel : kitB "str" "int" = some false)
  | list _ => exact (by decide +kernel : kitB "list" "int" = some false)
  | tuple _ => exact (by decide +kernel : kitB "tuple" "int" = some false)
  | dict _ => exact (by decide +kernel : kitB "dict" "int" = some false)
theorem kit_bool (d : PyData) : kitB (tyD d) "bool" = some (isB d) := by
  cases d with
  | none => exact (by decide +kernel : kitB "NoneType" "bool" = some false)
  | bool _ => exact (by decide +kernel : kitB "bool" "bool" = some true)
  | int _ => exact (by decide +kernel : kitB "int" "bool" = some false)
  | str _ => exact (by decide +kernel : kitB "str" "bool" = some false)
  | list _ => exact (by decide +kernel : kitB "list" "bool" = some false)
  | tuple _ => exact (by decide +kernel : kitB "tuple" "bool" = some false)
  | dict _ => exact (by decide +kernel : kitB "dict" "bool" = some false)
theorem kit_list (d : PyData) : kitB (tyD d) "list" = some (isL d) := by
  cases d with
  | none => exact (by decide +kernel : kitB "NoneType" "list" = some false)
  | bool _ => exact (by decide +kernel : kitB "bool" "list" = some false)
  | int _ => exact (by decide +kernel : kitB "int" "list" = some false)
  | str _ => exact (by decide +kernel : kitB "str" "list" = some false)
  | list _ => exact (by decide +kernel : kitB "list" "list" = some true)
  | tuple _ => exact (by decide +kernel : kitB "tuple" "list" = some false)
  | dict _ => exact (by decide +kernel : kitB "dict" "list" = some false)
theorem kit_tuple (d : PyData) : kitB (tyD d) "tuple" = some (isT d) := by
  cases d with
  | none => exact (by decide +kernel : kitB "NoneType" "tuple" = some false)
  | bool _ => exact (by decide +kernel : kitB "bool" "tuple" = some false)
  | int _ => exact (by decide +kernel : kitB "int" "tuple" = some false)
  | str _ => exact (by decide +kernel : kitB "str" "tuple" = some false)
  | list _ => exact (by decide +kernel : kitB "list" "tuple" = some false)
  | tuple _ => exact (by decide +kernel : kitB "tuple" "tuple" = some true)
  | dict _ => exact (by decide +kernel : kitB "dict" "tuple" = some false)
theorem kit_str (d : PyData) : kitB (tyD d) "str" = some (isS d) := by
  cases d with
  | none => exact (by decide +kernel : kitB "NoneType" "str" = some false)
  | bool _ => exact (by decide +kernel : kitB "bool" "str" = some false)
  | int _ => exact (by decide +kernel : kitB "int" "str" = some false)
  | str _ => exact (by decide +kernel : kitB "str" "str" = some true)
  | list _ => exact (by decide +kernel : kitB "list" "str" = some false)
  | tuple _ => exact (by decide +kernel : kitB "tuple" "str" = some false)
  | dict _ => exact (by decide +kernel : kitB "dict" "str" = some false)
theorem isi_of {K : PySem.W.Frag} {H : Hp} {v : V} {d : PyData} {T : String} {f : PyData → Bool} {Q : VK} (kt : ∀ d, kitB (tyD d) T = some (f d)) (h : Dp K H v d) (q : Q (.bl (f d)) H) : rIsi K [v, .ty T] H Q :=
  ⟨v, .ty T, _, _, _, rfl, .ty T, dp_ty h, kit_ty (kt d), q⟩
theorem isi_int {K : PySem.W.Frag} {H : Hp} {v : V} {d : PyData} {Q : VK} (h : Dp K H v d) (q : Q (.bl (isI d)) H) : rIsi K [v, .ty "int"] H Q := isi_of kit_int h q
theorem isi_bool {K : PySem.W.Frag} {H : Hp} {v : V} {d : PyData} {Q : VK} (h : Dp K H v d) (q : Q (.bl (isB d)) H) : rIsi K [v, .ty "bool"] H Q := isi_of kit_bool h q
theorem isi_list {K : PySem.W.Frag} {H : Hp} {v : V} {d : PyData} {Q : VK} (h : Dp K H v d) (q : Q (.bl (isL d)) H) : rIsi K [v, .ty "list"] H Q := isi_of kit_list h q
theorem isi_tuple {K : PySem.W.Frag} {H : Hp} {v : V} {d : PyData} {Q : VK} (h : Dp K H v d) (q : Q (.bl (isT d)) H) : rIsi K [v, .ty "tuple"] H Q := isi_of kit_tuple h q
/-- isinstance(x, (T, U)) -/
theorem isi_two {K : PySem.W.Frag} {H : Hp} {v : V} {d : PyData} {T U : String} {f g : PyData → Bool} {tp : Addr} {Q : VK} (kf : ∀ d, kitB (tyD d) T = some (f d)) (kg : ∀ d, kitB (tyD d) U = some (g d)) (h : Dp K H v d) (ht : H tp = some (.tup [.ty T, .ty U])) (q : Q (.bl (f d || g d)) H) :
    rIsiT K [v, .ref tp] H Q := by
  refine ⟨v, tp, _, _, [.type T, .type U], f d || g d, rfl, ht, .cons (.ty T) (.cons (.ty U) .nil), dp_ty h, ?_, q⟩
  refine kitAny_cons (kit_ty (kf d)) (fun e => ?_) (fun e => by rw [e]; rfl)
  refine kitAny_cons (kit_ty (kg d)) (fun e2 => ?_) (fun e2 => by rw [e2]; simp)
  rw [e, e2]; rfl
/-- the built-ins that the text uses and leaves alone -/
structure B0 (mg : Str → Option Value) : Prop where
  isinstance : mg "isinstance" = none
  int : mg "int" = none
  bool : mg "bool" = none
  list : mg "list" = none
  tuple : mg "tuple" = none
  len : mg "len" = none
  enumerate : mg "enumerate" = none
  abs : mg "abs" = none
  zip : mg "zip" = none
  all : mg "all" = none
  range : mg "range" = none
  min : mg "min" = none
section
variable {X : Cx} {p : Pos}
theorem pe_int_ (hg : Gl X "int") (h : X.mg "int" = none) : PE X (.Name "int" p) (tC (.ty "int")) := pe_bltn hg h PyProof.Rows.boot_int rfl
theorem pe_bool_ (hg : Gl X "bool") (h : X.mg "bool" = none) : PE X (.Name "bool" p) (tC (.ty "bool")) := pe_bltn hg h PyProof.Rows.boot_bool rfl
theorem pe_list_ (hg : Gl X "list") (h : X.mg "list" = none) : PE X (.Name "list" p) (tC (.ty "list")) := pe_bltn hg h PyProof.Rows.boot_list rfl
theorem pe_tuple_ (hg : Gl X "tuple") (h : X.mg "tuple" = none) : PE X (.Name "tuple" p) (tC (.ty "tuple")) := pe_bltn hg h PyProof.Rows.boot_tuple rfl
end
end Hs

set_option Elab.async false
set_option linter.all false
set_option maxRecDepth 100000
set_option maxHeartbeats 4000000
/-! sorted, min, max of a tuple of ints; a tuple from behind. -/
namespace Hs
open PySem PySem.Spec PyProof.Rows L2 PySem.W
section
variable {prog : Program} {w : World} {A : Around} {E : Value → Shared → Prop} {s : Shared}
abbrev collH (h : Heap) (vs : List Value) : Heap := (h.push (seqObj "list" #[] 0)).update h.objs.size (Obj.mapSeq (· ++ vs.toArray))
theorem collect_tup {l : Addr} {vs : List Value} {Q : List Value → Shared → Prop} (hl : IsTup s.heap l vs.toArray) (h : Q vs { s with heap := collH s.heap vs }) (hsz : vs.length ≤ sizeLine) : wpAny (model prog w) A (collect (.ref l)) Q E s := by
  obtain ⟨o, ho, hc, n, hd⟩ := id hl
  unfold collect
  refine wpAny_bind (wpAny_runValue (codeAny_builtin entry_proto_collect' ?_))
  show wpAny _ _ (do again (.builtin "list.__iadd__" ⟨[← newList [], .ref l], []⟩)) _ _ s
  refine wpAny_bind (wpAny_newList (wpAny_pure ⟨Code.quiet_builtin _ (by decide +kernel), codeAny_builtin entry_list_iadd' ?_⟩))
  show wpAny _ _ (Builtin.List.listExtendWith (.ref s.heap.objs.size) (.ref l) (.ref s.heap.objs.size)) _ _ { s with heap := s.heap.push (seqObj "list" #[] 0) }
  unfold Builtin.List.listExtendWith
  have there : (s.heap.push (seqObj "list" #[] 0)).get? l = some o := Heap.get?_push_of_some _ ho
  have fresh : (s.heap.push (seqObj "list" #[] 0)).get? s.heap.objs.size = some (seqObj "list" #[] 0) := Heap.get?_push_size _ rfl
  refine wpAny_bind (wpAny_typeOf (T := "tuple") ⟨o, there, hc⟩ ?_)
  rw [if_pos (by rw [show (Value.type "tuple" == Value.type "tuple") = true from rfl]; simp)]
  refine wpAny_bind (listItems_at there hd (wpAny_bind (listItems_at (xs := #[]) (n := 0) fresh rfl ?_)))
  rw [if_neg (by simp)]
  refine wpAny_bind (listUpdate_at (xs := #[]) (n := 0) fresh rfl (wpAny_pure ?_) (Nat.zero_le _) ?_)
  · show wpAny (model prog w) A (do
        let o ← load s.heap.objs.size
        match o.data with | .seq xs _ => pure xs.toList | _ => unsupported "internal:collect") Q E { s with heap := collH s.heap vs }
    refine wpAny_bind (wpAny_load (get?_update_seq fresh _) ?_)
    show wpAny _ _ (pure ((#[] : Array Value) ++ vs.toArray).toList) Q E _
    rw [show ((#[] : Array Value) ++ vs.toArray).toList = vs by simp]
    exact wpAny_pure h
  · show (#[] ++ vs.toArray).size ≤ sizeLine + 1
    simp only [Array.size_append, List.size_toArray, List.length_nil]; omega
theorem sorted_tupI {l : Addr} {vs : List Value} {ns : List Int} {Q : Value → Shared → Prop} (hl : IsTup s.heap l vs.toArray) (hI : IntsAre vs ns) (h64 : vs.length < 64)
    (h : ∀ (out : Array Value) (ms : List Int), IntsAre out.toList ms → ms.Perm ns → ms.Pairwise (· ≤ ·) → Q (.ref (s.heap.objs.size + 1)) { s with heap := sortedAll s.heap vs out }) : wpAny (model prog w) A (call (.builtin "sorted") [.ref l]) Q E s := by
  refine Calls.call_function_entry kind_sorted plain_sorted entry_sorted (args_sorted1 _) ?_
  unfold Builtin.«sorted»
  refine wpAny_bind (m := checkCount "sorted" 1 1 _) (wpAny_pure (wpAny_bind (collect_tup hl (wpAny_bind (wpAny_newList ?_)) (by rw [sizeLine_eq]; omega))))
  have hz : (collH s.heap vs).objs.size = s.heap.objs.size + 1 := by rw [Heap.size_update, size_push']
  have made : ((collH s.heap vs).push (seqObj "list" vs.toArray 0)).get? (s.heap.objs.size + 1) = some (seqObj "list" vs.toArray 0) := by rw [← hz]; exact Heap.get?_push_size _ rfl
  show wpAny _ _ _ _ _ { s with heap := (collH s.heap vs).push (seqObj "list" vs.toArray 0) }
  rw [hz]
  refine wpAny_bind (wpAny_holding (wpAny_call_entry slot_list_sort ⟨_, made, rfl⟩ entry_list_sort (list_sort_tree made hI h64 fun out ms a1 a2 a3 => ⟨_, rfl, wpAny_pure ⟨_, rfl, h out ms a1 a2 a3⟩⟩) (args_list_sort _)))
end
section
variable {X : Cx}
/-- sorted(t), t a tuple or a list of ints -/
theorem cr_sortedA : CallR X (.builtin "sorted") (fun vs H Q => ∃ (a : Addr) (ns : List Int), vs = [V.ref a] ∧ (SqT X.K H a (ns.map V.int) ∨ SqL X.K H a (ns.map V.int)) ∧ ns.length < 64 ∧ ∀ (ms : List Int) (p : Addr), ms.Perm ns → ms.Pairwise (· ≤ ·) → H p = none → Q (.ref p) (upd H p (.lst (ms.map V.int)))) := by
  intro pins s σ H vs us Q I r h
  obtain ⟨a, ns, rfl, hs, h64, q⟩ := h
  rcases hs with hs | hs
  · obtain ⟨its, rv, hl, _⟩ := I.tuple hs
    rw [Vals.ref1 r]
    have hi := rv.ints
    refine sorted_tupI hl hi (by rw [hi.length]; exact h64) fun out ms h1 h2 h3 => ?_
    obtain ⟨ep, he⟩ := PyProof.Rows.sortedAll_at s.heap its out
    have hz : (ms.map V.int).length ≤ sizeLine := by rw [List.length_map, h2.length_eq]; exact small64 h64
    exact ⟨.ref _, upd H (s.heap.objs.size + 1) (.lst (ms.map V.int)), I.laid (t' := s.toks) (fun _ _ => PyProof.Rows.sortedAll_old) (Nat.le_succ _) ⟨hz, out.toList, ep, vals_of_ints h1, he⟩, rfl, q ms _ h2 h3 (I.hok.fresh (Nat.le_succ _))⟩
  · exact cr_sorted pins s σ H _ us Q I r ⟨a, ns, rfl, hs, h64, q⟩
end

/-! ### min and max of a pair of ints -/
section
variable {X : Cx}
theorem holds_is {h : Heap} {v : Value} {n : Int} (H : Holds h v n) : ∃ t, v = .int n t := by
  obtain ⟨as, r⟩ := H
  cases r
  exact ⟨_, rfl⟩
theorem cr_min2T (hc : X.calm = true) (hu : X.A.units + 64 < cLine) : CallR X (.builtin "min") (fun vs H Q => ∃ (a : Addr) (i j : Int), vs = [V.ref a] ∧ SqT X.K H a [.int i, .int j] ∧ Q (.int (if j < i then j else i)) H) := by
  intro pins s σ H vs us Q I r h
  obtain ⟨a, i, j, rfl, hs, q⟩ := h
  obtain ⟨its, rv, hl, _⟩ := I.tuple hs
  rw [Vals.ref1 r]
  have hi : IntsAre its [i, j] := rv.ints (ns := [i, j])
  refine min_tuple_datum (x := i) (xs := [j]) (I.ok.hd hc) hl (by simpa using HoldAll.of_ints hi) (by show X.A.units + 1 + 0 < cLine; omega) fun k v h' tk hv hh hk => ?_
  obtain ⟨t, rfl⟩ := holds_is hh
  have e : minOf i [j] = if j < i then j else i := by
    show (if decide (j < i) = true then j else i) = _
    by_cases c : j < i
    · rw [if_pos (decide_eq_true c), if_pos c]
    · rw [if_neg (by rw [decide_eq_false c]; exact Bool.false_ne_true), if_neg c]
  exact ⟨.int _, H, I.kept (t' := tk) hk, ⟨t, rfl⟩, by rw [e]; exact q⟩
theorem cr_max2T (hc : X.calm = true) (hu : X.A.units + 64 < cLine) : CallR X (.builtin "max") (fun vs H Q => ∃ (a : Addr) (i j : Int), vs = [V.ref a] ∧ SqT X.K H a [.int i, .int j] ∧ Q (.int (if i < j then j else i)) H) := by
  intro pins s σ H vs us Q I r h
  obtain ⟨a, i, j, rfl, hs, q⟩ := h
  obtain ⟨its, rv, hl, _⟩ := I.tuple hs
  rw [Vals.ref1 r]
  have hi : IntsAre its [i, j] := rv.ints (ns := [i, j])
  refine max_tuple_datum (x := i) (xs := [j]) (I.ok.hd hc) hl (by simpa using HoldAll.of_ints hi) (by show X.A.units + 1 + 0 < cLine; omega) fun k v h' tk hv hh hk => ?_
  obtain ⟨t, rfl⟩ := holds_is hh
  have e : maxOf i [j] = if i < j then j else i := by
    show (if decide (i < j) = true then j else i) = _
    by_cases c : i < j
    · rw [if_pos (decide_eq_true c), if_pos c]
    · rw [if_neg (by rw [decide_eq_false c]; exact Bool.false_ne_true), if_neg c]
  exact ⟨.int _, H, I.kept (t' := tk) hk, ⟨t, rfl⟩, by rw [e]; exact q⟩
end
/-! ### t[::-1] -/
section
variable {prog : Program} {w : World} {A : Around} {E : Value → Shared → Prop} {s : Shared}
theorem adjust_rev (n : Nat) : Builtin.Slice.sliceAdjust none none (-1) (n : Int) = ((n : Int) - 1, -1) := by
  unfold Builtin.Slice.sliceAdjust
  simp only [show ((-1 : Int) < 0) from by decide, if_true]
theorem places_rev (n : Nat) : Builtin.Slice.slicePlaces ((n : Int) - 1) (-1) (-1) = n := by
  unfold Builtin.Slice.slicePlaces
  rw [if_neg (by decide)]
  have e : (-(-1 : Int)) = 1 := by decide
  rw [e]
  by_cases h : (n : Int) - 1 > -1
  · rw [if_pos h, Int.ediv_one]; omega
  · rw [if_neg h]; omega
theorem pick_rev (xs : Array Value) : ((List.range xs.size).filterMap fun (m : Nat) => xs[(((xs.size : Nat) : Int) - 1 + (m : Int) * (-1)).toNat]?) = xs.toList.reverse := by
  have key : ∀ k, k ≤ xs.size → ((List.range k).filterMap fun (m : Nat) => xs[(((xs.size : Nat) : Int) - 1 + (m : Int) * (-1)).toNat]?) = xs.toList.reverse.take k := by
    intro k
    induction k with
    | zero => intro _; rfl
    | succ k ih =>
      intro hk
      rw [List.range_succ, List.filterMap_append, ih (by omega), List.take_succ]
      congr 1
      have e : ((((xs.size : Nat) : Int) - 1 + (k : Int) * (-1)).toNat) = xs.size - 1 - k := by omega
      show (List.filterMap _ [k]) = _
      rw [List.filterMap_cons, e]
      have lt : xs.size - 1 - k < xs.size := by omega
      have e2 : xs.toList.reverse[k]? = xs[xs.size - 1 - k]? := by
        rw [List.getElem?_reverse (by rw [Array.length_toList]; omega), Array.length_toList, Array.getElem?_toList]
      rw [e2, Array.getElem?_eq_getElem lt]
      rfl
  rw [key xs.size (Nat.le_refl _)]
  exact List.take_of_length_le (by rw [List.length_reverse, Array.length_toList]; exact Nat.le_refl _)
theorem sliceApplied_rev {sl : Addr} {vl vu vs : Value} {n : Nat} {Q : Int × Int × Nat → Shared → Prop} (hs : s.heap.IsSliceOf sl vl vu vs) (pl : IsPart vl none) (pu : IsPart vu none) (ps : IsPart vs (some (-1))) (h : Q (((n : Int) - 1), -1, n) s) :
    wpAny (model prog w) A (Builtin.Slice.sliceApplied (.ref sl) (pure (n : Int))) Q E s := by
  obtain ⟨os, hos, hcs, hds⟩ := id hs
  unfold Builtin.Slice.sliceApplied Builtin.Slice.sliceFields
  refine wpAny_bind (wpAny_bind (wpAny_field hos hds (x := vl) rfl (wpAny_bind (wpAny_field hos hds (x := vu) rfl (wpAny_bind (wpAny_field hos hds (x := vs) rfl (wpAny_pure ?_)))))))
  refine wpAny_bind (HT.slicePart_ ps ?_)
  show wpAny _ _ (if ((-1 : Int) == 0) = true then _ else _) _ _ s
  rw [if_neg (by decide)]
  refine wpAny_bind (HT.slicePart_ pl (wpAny_bind (HT.slicePart_ pu (wpAny_bind (wpAny_pure ?_)))))
  show wpAny _ _ (match Builtin.Slice.sliceAdjust none none (-1) (n : Int) with | (lo, hi) => pure (lo, (-1 : Int), Builtin.Slice.slicePlaces lo hi (-1))) _ _ s
  rw [adjust_rev n]
  show wpAny _ _ (pure ((n : Int) - 1, (-1 : Int), Builtin.Slice.slicePlaces ((n : Int) - 1) (-1) (-1))) _ _ s
  rw [places_rev]
  exact wpAny_pure h
theorem getItem_tuple_rev {t sl : Addr} {items : Array Value} {vl vu vs : Value} {Q : Value → Shared → Prop} (ht : IsTup s.heap t items) (hs : s.heap.IsSliceOf sl vl vu vs) (pl : IsPart vl none) (pu : IsPart vu none) (ps : IsPart vs (some (-1)))
    (h : Q (.ref s.heap.objs.size) { s with heap := s.heap.push { cls := .type "tuple", data := .seq items.toList.reverse.toArray } }) (hsz : items.size ≤ sizeLine) : wpAny (model prog w) A (getItem (.ref t) (.ref sl)) Q E s := by
  have fits : sizeOk (.seq items.toList.reverse.toArray) := by
    show items.toList.reverse.toArray.size ≤ sizeLine
    rw [List.size_toArray, List.length_reverse, Array.length_toList]; exact hsz
  obtain ⟨os, hos, hcs, hds⟩ := id hs
  unfold getItem
  try with_reducible refine wpAny_holding ?_
  first | refine wpAny_bind (wpAny_pure ?_) | skip
  refine wpAny_bind (wpAny_sequenceKey ht.typeIs (by decide) (wpAny_bind (wpAny_callSpecial?_slot (name := Str.ofString "__getitem__") ht.typeIs PyProof.Rows.slot_tuple_getitem (wpAny_call_entry PyProof.Rows.slot_tuple_getitem ht.typeIs entry_tuple_getitem ?_ (args_tuple_getitem _ _)))))
  show wpAny _ _ (Builtin.Tuple.tupleItemsOf (.ref t) >>= _) _ _ s
  refine wpAny_bind (tupleItemsOf_ ht (wpAny_bind (wpAny_typeOf (T := "slice") ⟨os, hos, hcs⟩ ?_)))
  rw [if_pos (by decide)]
  refine wpAny_bind (sliceApplied_rev hs pl pu ps ?_)
  show wpAny _ _ (if ((((items.size : Nat) : Int) - 1) == 0 && (-1 : Int) == 1 && items.size == items.size) = true then _ else _) _ _ s
  rw [if_neg (by rw [show ((-1 : Int) == 1) = false from rfl]; simp), pick_rev]
  first
    | exact wpAny_bind (m := Builtin.Tuple.tupleExact _) (wpAny_newObj_type (wpAny_pure ⟨_, rfl, wpAny_pure h⟩) fits)
    | exact wpAny_bind (m := Builtin.Tuple.tupleExact _) (wpAny_newObj_type (wpAny_bind (wpAny_pure (wpAny_pure ⟨_, rfl, wpAny_pure h⟩))) fits)
    | exact wpAny_bind (wpAny_bind (m := Builtin.Tuple.tupleExact _) (wpAny_newObj_type (wpAny_pure (wpAny_pure ⟨_, rfl, wpAny_pure h⟩)) fits))
    | exact wpAny_bind (wpAny_bind (m := Builtin.Tuple.tupleExact _) (wpAny_newObj_type (wpAny_pure ⟨_, rfl, wpAny_pure h⟩) fits))
end
section
variable {X : Cx}
def tRevT (K : PySem.W.Frag) (te : TE) : TE := fun σ H Q => te σ H fun x G => ∃ a xs, x = .ref a ∧ SqT K G a xs ∧ ∀ p, G p = none → Q (.ref p) (upd G p (.tup xs.reverse))
theorem pe_revT {e : Expr} {te : TE} {k : Nat} {p1 p2 p3 pos : Pos} (he : PE X e te) : PE X (.Subscript e (.Slice none none (some (.UnaryOp .USub (.Constant (.int 1) k p1) p2)) p3) pos) (tRevT X.K te) := by
  refine ⟨fun pins s σ H Q I h => ?_⟩
  refine Subscript_ (thn (he.run pins s σ H _ I h) fun v s1 z => ?_)
  obtain ⟨x, H1, I1, r1, a, xs, ex, hx, q⟩ := z
  subst ex
  cases r1
  have step : PO X (some (.UnaryOp .USub (.Constant (.int 1) k p1) p2)) (tPart (tUn (rU fun i => .int (-i)) (tC (.int 1)))) := po_some (pe_un un_neg pe_int)
  refine wpAny_Slice (thn (po_none.run pins s1 σ H1 (fun o G => o = none ∧ G = H1) I1 ⟨rfl, rfl⟩) fun vl s2 z2 => ?_)
  obtain ⟨l, H2, I2, pl, rfl, rfl⟩ := z2
  refine thn (po_none.run pins s2 σ H2 (fun o G => o = none ∧ G = H2) I2 ⟨rfl, rfl⟩) fun vu s3 z3 => ?_
  obtain ⟨u, H3, I3, pu, rfl, rfl⟩ := z3
  refine thn (step.run pins s3 σ H3 (fun o G => o = some (-1) ∧ G = H3) I3 ⟨1, rfl, -1, rfl, rfl, rfl⟩) fun vs s4 z4 => ?_
  obtain ⟨o, H4, I4, ps, rfl, rfl⟩ := z4
  have I5 : Inv X pins σ H4 { s4 with heap := s4.heap.push { cls := .type "slice", data := .fields #[vl, vu, vs] } } := I4.kept (t' := s4.toks) fun b ob y => Heap.get?_push_of_some _ y
  obtain ⟨its, r, ht, hz⟩ := I5.tuple hx
  have hlen := r.length
  show wpAny (model X.prog X.w) X.A (subscriptTail e (.Slice none none (some (.UnaryOp .USub (.Constant (.int 1) k p1) p2)) p3) (.ref a) (.ref s4.heap.objs.size)) (EP X pins σ Q) X.xe { s4 with heap := s4.heap.push { cls := .type "slice", data := .fields #[vl, vu, vs] } }
  refine tail_any (ops := [.ref a, .ref s4.heap.objs.size]) ht.typeIs PyProof.Rows.slot_tuple_getitem.lookup ?_ (by with_unfolding_all rfl)
  refine getItem_tuple_rev ht (Heap.IsSliceOf.new _ vl vu vs) pl pu ps ?_ (by rw [List.size_toArray]; omega)
  refine ⟨.ref _, _, I5.laid (t' := s4.toks) (o := .tup xs.reverse) (fun b ob y => Heap.get?_push_of_some _ y) (Nat.le_refl _) ?_, rfl, q _ (I5.hok.fresh (Nat.le_refl _))⟩
  exact ⟨by rw [List.length_reverse]; exact hz, _, by simpa using r.reverse, IsTup.new _ _⟩
end
end Hs

set_option Elab.async false
set_option linter.all false
set_option maxRecDepth 100000
set_option maxHeartbeats 4000000
/-! A def called by keywords alone. -/
namespace Hs
open PySem PySem.Spec PyProof.Rows L2
/-- how keywords alone bind: gp puts their values in the parameters' order -/
structure KOnly (fd : FuncData) (ps ks : List Str) (gp : {α : Type} → List α → List α) : Prop where
  to : ∀ (s : Shared) (ws : List Value), ws.length = ks.length → BindsTo s fd ⟨[], ks.zip ws⟩ (ps.zip (gp ws))
  rel : ∀ {zs : List V} {ws : List Value}, Vals zs ws → zs.length = ks.length → Vals (gp zs) (gp ws)
theorem konly1 {K : PySem.W.Frag} {x qual : Str} {st : Stmt} {f : Addr} {fd : FuncData} {p : Str} (F : Fun K x qual st f fd)
    (h : ∀ (kV doc pm : Value) (an : Option Addr) (cdv ct u : Value), bindArgs (PySem.W.fnOf x qual (defArgs st) (defBody st) (defScope st) .none kV doc pm an cdv ct) ⟨[], [(p, u)]⟩ = pure [(p, u)]) : KOnly fd [p] [p] (fun l => l) := by
  obtain ⟨oc, od, kV, doc, pm, an, cdv, ct, osl, rfl, lk, hcd⟩ := F.ex
  refine ⟨fun s ws hl => ?_, fun r _ => r⟩
  match ws, hl with
  | [u], _ => exact .of_eq (h kV doc pm an cdv ct u)
def swap2 {α : Type} : List α → List α
  | [a, b] => [b, a]
  | l => l
theorem konly2 {K : PySem.W.Frag} {x qual : Str} {st : Stmt} {f : Addr} {fd : FuncData} {p q : Str} (F : Fun K x qual st f fd)
    (h : ∀ (kV doc pm : Value) (an : Option Addr) (cdv ct u v : Value), bindArgs (PySem.W.fnOf x qual (defArgs st) (defBody st) (defScope st) .none kV doc pm an cdv ct) ⟨[], [(q, u), (p, v)]⟩ = pure [(p, v), (q, u)]) : KOnly fd [p, q] [q, p] swap2 := by
  obtain ⟨oc, od, kV, doc, pm, an, cdv, ct, osl, rfl, lk, hcd⟩ := F.ex
  refine ⟨fun s ws hl => ?_, fun {zs ws} r hl => ?_⟩
  · match ws, hl with
    | [u, v], _ => exact .of_eq (h kV doc pm an cdv ct u v)
  · match zs, hl with
    | [a, b], _ =>
      cases r with
      | cons r1 r =>
        cases r with
        | cons r2 r =>
          cases r
          exact .cons r2 (.cons r1 .nil)
def tKw0 (sp : Sp) (n : Nat) (gp : List V → List V) (E : XK) (tk : TA) : TE := fun σ H Q => tk σ H fun zs G => zs.length = n ∧ sp (gp zs) G Q E
section
variable {X : Cx} {CX : CXT} {k : Nat} {f : Addr} {fd : FuncData} {ps ks : List Str} {sp : Sp} {E : XK} {x : Str} {p pos : Pos} {kws : List Keyword} {tk : TA} {gp : {α : Type} → List α → List α}
theorem pe_kw0 (F : FnOk X.prog X.w X.K X.mg X.base CX k f fd ps sp) (hr : Room k X.A) (hg : Gl X x) (hm : X.mg x = some (.ref f)) (hk : PySem.W.keepIn X.K (.ref f) = true) (hb : KOnly fd ps ks gp) (hx : Passes CX X E) (hkw : PK X kws tk)
    (hall : (backToKw pos (keywordEach kws X.env)).all (·.1.isSome) = true := by rfl) (hks : (backToKw pos (keywordEach kws X.env)).filterMap (·.1) = ks := by rfl) (hdb : (x == ("__debug__" : Str)) = false := by decide)
    (hpl : ((backTo pos (starEach [] X.env)).any (·.1) || (backToKw pos (keywordEach kws X.env)).any (·.1.isNone)) = false := by rfl) :
    PE X (.Call (.Name x p) [] kws pos) (tKw0 sp ks.length gp E tk) := by
  refine ⟨fun pins s σ H Q I h => ?_⟩
  refine wpAny_Call_Name_kw (ld_glob I hg hm ?_ hdb)
  refine PySem.W.callWith_KW0 (h₀ := X.base) I.ok.mod.kin hk hall (thn (hkw.run pos pins s σ H _ I h) fun ws s2 z => ?_) hpl
  obtain ⟨zs, G, J, rz, hl, q2⟩ := z
  refine ⟨J.kIn, ?_⟩
  rw [hks]
  have lw : ws.length = ks.length := by rw [← rz.length]; exact hl
  refine wpAny_call (codeAny_mono (F.run X.A X.stack s2 G ⟨[], ks.zip ws⟩ (gp ws) (gp zs) Q E hr J.env0 (hb.to s2 ws lw) (hb.rel rz hl) q2) fun r s' hq => ?_)
  cases r with
  | error er => exact hx pins σ G s2 er s' J hq
  | ok fl =>
    cases fl with
    | ret u => exact J.after hq
    | next => exact False.elim hq
    | brk => exact False.elim hq
    | cont => exact False.elim hq
end
section
variable {X : Cx}
/-- t[lo:hi], whether it is t itself or a new tuple -/
theorem sl_tupU : SlR X (fun x lo hi H Q => ∃ a xs, x = .ref a ∧ SqT X.K H a xs ∧ ∀ p G, Same H G → SqT X.K G p (cutV xs lo hi) → Q (.ref p) G) := by
  intro pins s σ H x v vl vu lo hi sl Q I rx hs pl pu h
  obtain ⟨a, xs, rfl, hx, q⟩ := h
  refine sl_tupA pins s σ H (.ref a) v vl vu lo hi sl Q I rx hs pl pu ⟨a, xs, rfl, hx, fun hw => ?_, fun _ p np => q p _ (same_new np) (SqT.of upd_same)⟩
  refine q a H (Same.refl _) ?_
  have e : cutV xs lo hi = xs := by
    unfold cutV
    rw [hw.1, hw.2, List.drop_zero, Nat.sub_zero, List.take_length]
  rw [e]; exact hx
/-- t + u, whether it is one of them or a new tuple -/
theorem op_catU : OpR X (binaryOp .Add) (fun x y H Q => ∃ a b xs ys, x = .ref a ∧ y = .ref b ∧ SqT X.K H a xs ∧ SqT X.K H b ys ∧ xs.length + ys.length ≤ sizeLine ∧ ∀ p G, Same H G → SqT X.K G p (xs ++ ys) → Q (.ref p) G) := by
  intro pins s σ H x y v u Q I rx ry h
  obtain ⟨a, b, xs, ys, rfl, rfl, ha, hb, hz, q⟩ := h
  refine op_catA pins s σ H (.ref a) (.ref b) v u Q I rx ry ⟨a, b, xs, ys, rfl, rfl, ha, hb, hz, fun e => ?_, fun _ e => ?_, fun _ _ p np => q p _ (same_new np) (SqT.of upd_same)⟩
  · refine q b H (Same.refl _) ?_
    rw [e]; exact hb
  · refine q a H (Same.refl _) ?_
    rw [e, List.append_nil]; exact ha
end
end Hs

set_option Elab.async false
set_option linter.all false
set_option maxRecDepth 100000
set_option maxHeartbeats 4000000
/-! Own error classes over any built-in error: made by position and by name, their fields stored and read, isinstance of them. -/
namespace Hs
open PySem PySem.Spec PyProof.Rows L2
section
variable {M : Model} {A : Around} {E : Value → Shared → Prop} {h : Heap} {g : Array GenState} {d : Drawn} {t : Nat} {os : OsState}
variable {nm qn : Str} {C N : Addr} {bs bm bmB : List Value} {hdct : Bool} {sn : List Str} {sub : List Value} {ab : Bool} {col : Option Bool} {dd : Option Addr} {k0 k1 k2 k3 k5 : Option Value} {B newId initId : String} {rest : List Value} {kw : List (Str × Value)}
theorem chk_newK (F : ExcBaseFacts B newId initId bmB) (tail : ∀ Y : String, bm.contains (.type Y) = bmB.contains (.type Y)) {Q : Unit → Shared → Prop} (cl : h.get? C = some (excClassObj nm qn C N bs bm hdct sn sub ab col dd k0 k1 k2 k3 k5 newId)) (fin : Q () ⟨h, g, d, t, os⟩) :
    wpAny M A (checkBuiltinCall newId ⟨.ref C :: rest, kw⟩) Q E ⟨h, g, d, t, os⟩ := by
  have inB : (Value.ref C :: bm).contains (.type B) = true := by rw [List.contains_cons, tail, F.hasB, Bool.or_true]
  have st := F.noStar
  simp only [checkBuiltinCall, F.newKind, F.newSplit, F.newRow]
  repeat (first | refine wpAny_loadPart_at cl ?_ | (refine wpAny_isSubtype_exc cl ?_; rw [inB]) | refine wpAny_staticBase_exc cl ?_ | refine wpAny_madeBy_exc cl ?_ | simp only [bne_self_eq_false, Bool.false_eq_true, if_false] | wp_step)
  exact fin
theorem chk_tcK {Q : Unit → Shared → Prop} (cl : h.get? C = some (excClassObj nm qn C N bs bm hdct sn sub ab col dd k0 k1 k2 k3 k5 newId)) (fin : Q () ⟨h, g, d, t, os⟩) : wpAny M A (checkBuiltinCall "type.__call__" ⟨.ref C :: rest, kw⟩) Q E ⟨h, g, d, t, os⟩ := by
  have z := tc_sub
  have ty : (⟨h, g, d, t, os⟩ : Shared).TypeIs (.ref C) "type" := ⟨_, cl, rfl⟩
  simp only [checkBuiltinCall, tc_kind, tc_split]
  repeat (any_goals (first | assumption | with_reducible refine wpAny_loadPart_at cl ?_ | with_reducible refine wpAny_onRaise ?_ | with_reducible refine wpAny_map ?_ | wp_step))
end
section
variable {prog : Program} {w : World} {A : Around} {E : Value → Shared → Prop} {R : Result → Shared → Prop} {h : Heap} {g : Array GenState} {d : Drawn} {t : Nat} {os : OsState}
variable {nm qn : Str} {C N : Addr} {bs bm bmB : List Value} {hdct : Bool} {sn : List Str} {sub : List Value} {ab : Bool} {col : Option Bool} {dd : Option Addr} {k0 k1 k2 k3 k5 : Option Value} {B newId initId : String} {rest : List Value} {kw : List (Str × Value)}
/-- a new error of the class at C, its args the tuple at t1 -/
abbrev exN (C t1 : Addr) : Obj := HandSPX.excO C t1
theorem newK (F : ExcBaseFacts B newId initId bmB) (tail : ∀ Y : String, bm.contains (.type Y) = bmB.contains (.type Y)) (cl : h.get? C = some (excClassObj nm qn C N bs bm hdct sn sub ab col dd k0 k1 k2 k3 k5 newId))
    (fin : R (.ok (.ret (.ref (h.objs.size + 1)))) ⟨(h.push (PySem.W.kdv_tup rest)).push (exN C h.objs.size), g, d, t, os⟩) (sz : rest.length ≤ sizeLine) :
    codeAny (model prog w) A (.builtin newId ⟨.ref C :: rest, kw⟩) R ⟨h, g, d, t, os⟩ := by
  have en := F.ends
  have i1 : (Value.ref C :: bm).contains (.type B) = true := by rw [List.contains_cons, tail, F.hasB, Bool.or_true]
  have i2 : (Value.ref C :: bm).contains (.type "AttributeError") = false := by rw [List.contains_cons, tail, F.noAttr]; rfl
  have i3 : (Value.ref C :: bm).contains (.type "NameError") = false := by rw [List.contains_cons, tail, F.noName]; rfl
  refine codeAny_builtinAt F.entry ?_
  unfold Builtin.«BaseException.__new__»
  refine PySem.wpAt_bind ?_
  show PySem.wpAt _ _ _ (stack >>= _) _ _ _
  refine PySem.wpAt_bind (PySem.wpAt_stack fun p below => PySem.wpAt_of_wpAny ?_)
  wp_walk
  refine PySem.wpAt_of_wpAny ?_
  rw [F.owner]
  repeat (first | with_reducible refine wpAny_madeHere_exc F.canon cl ?_ | with_reducible refine wpAny_loadPart_at cl ?_ | (with_reducible refine wpAny_isSubtype_exc cl ?_; first | rw [i1] | rw [i2] | rw [i3]) | wp_step)
  show R _ _
  rw [Heap.size_push]
  exact fin
theorem tcallK (F : ExcBaseFacts B newId initId bmB) (tail : ∀ Y : String, bm.contains (.type Y) = bmB.contains (.type Y)) {fI : Addr} {Q : Fin → Shared → Prop} (cl : h.get? C = some (excClassObj nm qn C N bs bm hdct sn sub ab col dd k0 k1 k2 k3 k5 newId))
    (ini : PySem.W.Looks (model prog w) h (typeLookup (.ref C) "__init__") (some (.ref fI))) (bnd : ∀ self, PySem.W.Looks (model prog w) h (bindSpecial (.ref fI) self) (.ref fI, [self])) (sz : rest.length ≤ sizeLine)
    (fin : codeAny (model prog w) A (.call (.ref fI) ⟨.ref (h.objs.size + 1) :: rest, kw⟩) (fun r s' => match r with | .ok (.ret v) => v = .none ∧ Q (.done (.ret (.ref (h.objs.size + 1)))) s' | .ok _ => False | .error e => E e s')
      ⟨(h.push (PySem.W.kdv_tup rest)).push (exN C h.objs.size), g, d, t, os⟩) :
    wpAny (model prog w) A (Builtin.«type.__call__» ⟨.ref C :: rest, kw⟩) Q E ⟨h, g, d, t, os⟩ := by
  repeat (first | with_reducible refine wpAny_loadPart_at cl ?_ | with_reducible refine wpAny_madeBy_exc cl ?_ | wp_step)
  refine codeAny_call_builtin_code (Code.quiet_builtin _ F.quiet) (chk_newK F tail cl ?_)
  refine newK F tail cl ?_ sz
  show wpAny _ _ _ _ _ _
  have kp : ∀ b o, h.get? b = some o → ((h.push (PySem.W.kdv_tup rest)).push (exN C h.objs.size)).get? b = some o := fun b o e => Heap.get?_push_of_some _ (Heap.get?_push_of_some _ e)
  have cl1 := kp _ _ cl
  have at1 : ((h.push (PySem.W.kdv_tup rest)).push (exN C h.objs.size)).get? (h.objs.size + 1) = some (exN C h.objs.size) := by heap_get
  have own : (Value.ref C :: bm).contains (.ref C) = true := by simp
  have L1 := ini.keeps kp
  have L2 := (bnd (.ref (h.objs.size + 1))).keeps kp
  unfold isInstance
  repeat (first | with_reducible refine wpAny_loadPart_at at1 ?_ | (with_reducible refine wpAny_isSubtype_exc cl1 ?_; rw [own]) | wp_step)
  show wpAny _ _ (typeLookup (.ref C) _) _ _ _
  refine L1.at ?_
  refine wpAny_holding (wpAny_bind (L2.at ?_))
  refine wpAny_bind (wpAny_call (codeAny_mono fin fun r s' z => ?_))
  rcases r with e | (v | _ | _ | _) <;> first | exact z | exact z.elim | skip
  obtain ⟨rfl, z⟩ := z
  first | exact wpAny_pure (wpAny_pure z) | (wp_walk; exact z)
theorem ownK (F : ExcBaseFacts B newId initId bmB) (tail : ∀ Y : String, bm.contains (.type Y) = bmB.contains (.type Y)) {fI : Addr} (cl : h.get? C = some (excClassObj nm qn C N bs bm hdct sn sub ab col dd k0 k1 k2 k3 k5 newId))
    (ini : PySem.W.Looks (model prog w) h (typeLookup (.ref C) "__init__") (some (.ref fI))) (bnd : ∀ self, PySem.W.Looks (model prog w) h (bindSpecial (.ref fI) self) (.ref fI, [self])) (sz : rest.length ≤ sizeLine)
    (fin : codeAny (model prog w) (A.under (.builtin "type.__call__" ⟨.ref C :: rest, kw⟩)) (.call (.ref fI) ⟨.ref (h.objs.size + 1) :: rest, kw⟩) (PySem.W.InitBack (h.objs.size + 1) R) ⟨(h.push (PySem.W.kdv_tup rest)).push (exN C h.objs.size), g, d, t, os⟩) :
    codeAny (model prog w) A (.call (.ref C) ⟨rest, kw⟩) R ⟨h, g, d, t, os⟩ := by
  have f1 := tc_lookup
  have f2 := tc_bind (.ref C)
  have ty : (⟨h, g, d, t, os⟩ : Shared).TypeIs (.ref C) "type" := ⟨_, cl, rfl⟩
  refine codeAny_of_tree ?_
  show wpAny _ _ (callAny (.ref C) _) _ _ _
  repeat (any_goals (first | assumption | with_reducible refine wpAny_loadPart_at cl ?_ | wp_step))
  refine ⟨rfl, ?_⟩
  refine codeAny_call_builtin_at (Code.quiet_builtin _ (by decide +kernel)) entry_typeCall (chk_tcK cl (tcallK F tail cl ini bnd sz ?_))
  refine codeAny_mono fin fun r s' z => ?_
  rcases r with e | (v | _ | _ | _) <;> exact z
end
end Hs

set_option Elab.async false
set_option linter.all false
set_option maxRecDepth 100000
set_option maxHeartbeats 4000000
/-! What an own error class says, all in one look; stores, reads, isinstance, and the making of its errors. -/
namespace Hs
open PySem PySem.Spec PyProof.Rows L2
def exB (K : PySem.W.Frag) (C : Addr) (bmB : List Value) (newId : String) : Bool :=
  PySem.W.excInitIn K C bmB newId && (PySem.W.excOver K C bmB && (PySem.W.hasDictIn K C && (PySem.W.keepIn K (.ref C) &&
  (decide (PySem.W.findIn K (.ref C) "__setattr__" = some (some (.builtin "object.__setattr__"))) && (decide (PySem.W.findIn K (.ref C) "__getattribute__" = some (some (.builtin "BaseException.__getattribute__"))) &&
  (decide (PySem.W.findIn K (.ref C) "__getattr__" = some none) && (decide (PySem.W.subIn K (.ref C) (.type "BaseException") = some true) && (decide (PySem.W.typeIn K (.ref C) = some (.type "type")) &&
  (decide (PySem.W.findIn K (.ref C) "__class__" = some (some (.builtin "object.__class__"))) && (decide (PySem.W.specialIn K (.builtin "object.__class__") "__get__" = some (some (.builtin "getset_descriptor.__get__"))) &&
  (decide (PySem.W.takesIn K (.builtin "object.__class__") = some true) && decide (PySem.W.mroIn K C (.type "object") = some true))))))))))))
/-- the class at C is an own error class over one of the built-in ones -/
structure EX (K : PySem.W.Frag) (C : Addr) : Prop where
  base : ∃ B newId initId bmB, ExcBaseFacts B newId initId bmB ∧ StoreFacts B bmB "object.__setattr__" "object" ∧ PySem.W.excInitIn K C bmB newId = true ∧ PySem.W.excOver K C bmB = true
  hd : PySem.W.hasDictIn K C = true
  kp : PySem.W.keepIn K (.ref C) = true
  sa : PySem.W.findIn K (.ref C) "__setattr__" = some (some (.builtin "object.__setattr__"))
  ga : PySem.W.findIn K (.ref C) "__getattribute__" = some (some (.builtin "BaseException.__getattribute__"))
  gg : PySem.W.findIn K (.ref C) "__getattr__" = some none
  ex : PySem.W.subIn K (.ref C) (.type "BaseException") = some true
  ty : PySem.W.typeIn K (.ref C) = some (.type "type")
  ca : PySem.W.findIn K (.ref C) "__class__" = some (some (.builtin "object.__class__"))
  cg : PySem.W.specialIn K (.builtin "object.__class__") "__get__" = some (some (.builtin "getset_descriptor.__get__"))
  ct : PySem.W.takesIn K (.builtin "object.__class__") = some true
  mo : PySem.W.mroIn K C (.type "object") = some true
theorem ex_of {K : PySem.W.Frag} {C : Addr} {B newId initId : String} {bmB : List Value} (b : ExcBaseFacts B newId initId bmB) (s : StoreFacts B bmB "object.__setattr__" "object") (h : exB K C bmB newId = true) : EX K C := by
  obtain ⟨h1, h⟩ := Bool.and_eq_true_iff.mp h
  obtain ⟨h2, h⟩ := Bool.and_eq_true_iff.mp h
  obtain ⟨h3, h⟩ := Bool.and_eq_true_iff.mp h
  obtain ⟨h4, h⟩ := Bool.and_eq_true_iff.mp h
  obtain ⟨h5, h⟩ := Bool.and_eq_true_iff.mp h
  obtain ⟨h6, h⟩ := Bool.and_eq_true_iff.mp h
  obtain ⟨h7, h⟩ := Bool.and_eq_true_iff.mp h
  obtain ⟨h8, h⟩ := Bool.and_eq_true_iff.mp h
  obtain ⟨h9, h⟩ := Bool.and_eq_true_iff.mp h
  obtain ⟨ha, h⟩ := Bool.and_eq_true_iff.mp h
  obtain ⟨hb, h⟩ := Bool.and_eq_true_iff.mp h
  obtain ⟨hc, h⟩ := Bool.and_eq_true_iff.mp h
  exact ⟨⟨B, newId, initId, bmB, b, s, h1, h2⟩, h3, h4, of_decide_eq_true h5, of_decide_eq_true h6, of_decide_eq_true h7, of_decide_eq_true h8, of_decide_eq_true h9, of_decide_eq_true ha, of_decide_eq_true hb, of_decide_eq_true hc, of_decide_eq_true h⟩
section
open PySem.Builtin PySem.Builtin.ObjectAttr
variable {prog : Program} {w : World} {A : Around} {E : Value → Shared → Prop} {R : Result → Shared → Prop} {hp : Heap} {g : Array GenState} {d : Drawn} {t : Nat} {os : OsState} {B : String} {bmB : List Value}
/-- the first field of an error: its dict is made -/
theorem osaK {K : PySem.W.Frag} {f : Str} {tk : Tok} {v : Value} {x C : Addr} {fv : Array Value} (SF : StoreFacts B bmB "object.__setattr__" "object") (KX : K.In hp) (hx : hp.get? x = some { cls := .ref C, data := .fields fv }) (ov : PySem.W.excOver K C bmB = true) (hd : PySem.W.hasDictIn K C = true) (hno : PySem.W.findIn K (.ref C) f = some none)
    (fin : ∀ h' tk' dx, (∀ b o, b ≠ x → hp.get? b = some o → h'.get? b = some o) → hp.objs.size ≤ dx → dx ≠ x → h'.get? x = some { cls := .ref C, dict := some dx, data := .fields fv } → h'.Ns1 dx (fun y => if y = f then some v else none) → R (.ok (.ret .none)) ⟨h', g, d, tk', os⟩) :
    codeAny (model prog w) A (.call (.builtin "object.__setattr__") ⟨[.ref x, .str f tk, v], []⟩) R ⟨hp, g, d, t, os⟩ := by
  have tk0 : PySem.W.takerIn K C f = some none := by unfold PySem.W.takerIn; rw [hno]; rfl
  refine PySem.W.osa_openX (od := none) SF KX ⟨hx, rfl, rfl, trivial⟩ ov tk0 fun b => ?_
  obtain ⟨cd, hcd, hh⟩ := PySem.W.any_some hd
  have lk : PySem.W.Looks (model prog w) hp (classData C) cd := PySem.W.looks_clsIn KX hcd
  have xs : x ≠ hp.objs.size := Nat.ne_of_lt (Heap.lt_size hx)
  show wpAny _ _ (storeInOwnDict (.ref x) (.ref C) (.str f tk) f v b) _ _ _
  obtain ⟨nm, bs, mro, ns, qn, hd', sn, sb, ab, col, del⟩ := cd
  dsimp only at hh
  subst hh
  unfold storeInOwnDict ownDictForStores
  repeat (first | with_reducible refine HandSPX.store_in_new ?_ ?_ | with_reducible refine wpAny_loadPart_at hx ?_ | with_reducible refine lk.at ?_ | wp_step)
  · exact ⟨_, #[], _, (Heap.get?_update_ne _ _ _ _ xs.symm).trans (Heap.get?_push_at rfl rfl), rfl, fun e he => absurd he (by simp), fun _ => rfl⟩
  · intro h' tk' hn' hs
    have hx1 : (hp.push { cls := .type "dict", data := .dict #[] }).get? x = some { cls := .ref C, data := .fields fv } := Heap.get?_push_of_some _ hx
    refine fin h' tk' hp.objs.size (fun b o hb ho => ?_) (Nat.le_refl _) xs.symm ?_ hn'
    · exact (hs.2 b (Nat.ne_of_lt (Heap.lt_size ho))).trans ((Heap.get?_update_ne _ _ _ _ hb).trans (Heap.get?_push_of_some _ ho))
    · exact (hs.2 x xs).trans (Heap.get?_update_self _ hx1 rfl)
end
section
variable {X : Cx} {pins : List (Addr × Obj)} {σ : L2.St} {H : Hp} {s : Shared} {a C : Addr} {f : Str} {y : V} {u : Value} {Q : Unit → Shared → Prop} {E : Value → Shared → Prop} {A : Around}
/-- self.f = y, the first one -/
theorem ostK (T : EX X.K C) (I : Inv X pins σ H s) (e : H a = some (exo a C none)) (hno : PySem.W.findIn X.K (.ref C) f = some none) (ry : RelV y u)
    (fin : ∀ dx s', H dx = none → dx ≠ a → Inv X pins σ (upd (upd H dx (exd dx [(f, y)])) a (exo a C (some dx))) s' → Q () s') : wpAny (model X.prog X.w) A (setAttr (.ref a) f u) Q E s := by
  obtain ⟨B, newId, initId, bmB, _, SF, _, ov⟩ := T.base
  obtain ⟨t1, ho⟩ := exo_at I.hok e
  obtain ⟨hp, g, d, t, os⟩ := s
  refine PySem.W.set_plain I.kIn (ox := { cls := .ref C, dict := none, data := .fields #[.ref t1, .none, .none, .none, .bool false, .none] }) (od := none) ⟨ho, rfl, rfl, trivial⟩ T.sa ?_
  refine osaK SF I.kIn ho ov T.hd hno (fun h' tk' dx kp dn dne hx hn => ?_)
  have fr : H dx = none := I.hok.fresh dn
  have nd : ∀ {b : Addr} {o : Obj}, hp.get? b = some o → b ≠ dx := fun {b o} z => Nat.ne_of_lt (Nat.lt_of_lt_of_le (Heap.lt_size z) dn)
  have na : ∀ {b : Addr}, H b = none → b ≠ a := fun {b} n z => by rw [z, e] at n; cases n
  have up : ∀ {b : Addr} {o : HO}, H b = some o → b ≠ a → upd (upd H dx (exd dx [(f, y)])) a (exo a C (some dx)) b = some o := fun {b o} z n => by rw [upd_ne n, upd_ne (ne_of_none z fr)]; exact z
  have UN : Un X.fs [] H (upd (upd H dx (exd dx [(f, y)])) a (exo a C (some dx))) hp h' := {
    keep := fun b o z n _ _ => kp b o (na n) z
    slot := fun b o z n _ _ => ⟨o.slots, kp b o (na n) z⟩
    free := fun b o z n _ => (upd_ne (na n)).trans ((upd_ne (nd z)).trans n)
    there := fun b o z _ => by
      by_cases hb : b = a
      · exact ⟨_, hb ▸ hx⟩
      · exact ⟨o, kp b o hb z⟩
    tups := fun b xs z => up z (at_ne e z exo_tup)
    frzs := fun b o v z => up z (at_ne e z exo_frz)
    tbls := fun b ps z => ⟨#[], by rw [up z (at_ne e z exo_tbl)]; simp⟩ }
  refine fin dx _ fr dne (I.un (t' := tk') UN fun b o z => ?_)
  by_cases hb : b = a
  · subst hb
    rw [upd_same] at z
    cases z
    exact exo_ok hx
  rw [upd_ne hb] at z
  by_cases hd : b = dx
  · subst hd
    rw [upd_same] at z
    cases z
    exact exd_ok hn (relO_put (fs := []) ry fun _ => True.intro)
  rw [upd_ne hd] at z
  refine (I.hok b o z).stay (fun c v hc y => kp c v ?_ y) (fun c hc => up hc (at_ne e hc exo_own)) (fun c xs hc => up hc (at_ne e hc exo_tup))
  rcases hc with hc | hc
  · rw [hc]; exact hb
  · exact at_ne e hc exo_own
end
/-- self.f = e -/
def tOsK (K : PySem.W.Frag) (f : Str) (to te : TE) : TS := fun D σ H => te σ H fun y H1 => to σ H1 fun x H2 => ∃ a C : Addr, x = .ref a ∧ EX K C ∧ PySem.W.findIn K (.ref C) f = some none ∧ H2 a = some (exo a C none) ∧ ∀ dx, H2 dx = none → dx ≠ a → D.nx σ (upd (upd H2 dx (exd dx [(f, y)])) a (exo a C (some dx)))
/-- an error of the class at C -/
def ErAt (H : Hp) (a C : Addr) (fs : List (Str × V)) : Prop := (fs = [] ∧ H a = some (exo a C none)) ∨ ∃ dx, H a = some (exo a C (some dx)) ∧ H dx = some (exd dx fs)
theorem ErAt.same {H G : Hp} {a C : Addr} {fs : List (Str × V)} (h : ErAt H a C fs) (s : Same H G) : ErAt G a C fs := by
  rcases h with ⟨e, h⟩ | ⟨dx, h1, h2⟩
  · exact .inl ⟨e, s _ _ h⟩
  · exact .inr ⟨dx, s _ _ h1, s _ _ h2⟩
theorem ErAt.inst {P : Program} {w : World} {H : Hp} {h : Heap} {a C : Addr} {fs : List (Str × V)} (k : HOk P w H h) (e : ErAt H a C fs) : ∃ ox od, PySem.W.InstAt h a ox C od := by
  rcases e with ⟨_, e⟩ | ⟨dx, e1, e2⟩
  · obtain ⟨t1, ho⟩ := exo_at k e
    exact ⟨_, none, ho, rfl, rfl, trivial⟩
  · obtain ⟨t1, ho⟩ := exo_at k e1
    obtain ⟨mA, ⟨o, es, ep, z, _⟩, _⟩ := exd_at k e2
    exact ⟨_, some o, ho, rfl, rfl, z⟩
/-- e.f -/
def tExf (K : PySem.W.Frag) (f : Str) (te : TE) : TE := fun σ H Q => te σ H fun x H1 => ∃ (a C : Addr) (fs : List (Str × V)) (v : V), x = .ref a ∧ EX K C ∧ PySem.W.findIn K (.ref C) f = some none ∧ ErAt H1 a C fs ∧ fs.lookup f = some v ∧ Q v H1
/-- isinstance(e, c) -/
def rIsX (K : PySem.W.Frag) : List V → Hp → VK → Prop := fun xs H Q => ∃ (a C : Addr) (fs : List (Str × V)) (c : V) (u : Value) (b : Bool), xs = [.ref a, c] ∧ EX K C ∧ ErAt H a C fs ∧ ClsV c u ∧ PySem.W.kitOne K (.ref C) u = some b ∧ Q (.bl b) H
/-- isinstance(e, (c1, c2, ..)) -/
def rIsXT (K : PySem.W.Frag) : List V → Hp → VK → Prop := fun xs H Q => ∃ (a C tp : Addr) (fs : List (Str × V)) (cs : List V) (us : List Value) (b : Bool), xs = [.ref a, .ref tp] ∧ EX K C ∧ ErAt H a C fs ∧ H tp = some (.tup cs) ∧ Paired ClsV cs us ∧ PySem.W.kitAny K (.ref C) us = some b ∧ Q (.bl b) H
/-- C(e, ..) -/
def tMkX (C : Addr) (sp : Sp) (ta : TA) : TE := fun σ H Q => ta σ H fun vs H1 => vs.length ≤ 1000 ∧ ∀ a, H1 a = none → sp (.ref a :: vs) (upd H1 a (exo a C none)) (fun v H2 => v = .non ∧ Q (.ref a) H2) (fun _ _ _ => False)
section
variable {X : Cx} {o e : Expr} {es : List Expr} {to te : TE} {ta : TA} {f : Str} {p p' pos : Pos}
theorem ps_osK (ho : PE X o to) (he : PE X e te) (hs : swapsWith e (some (.Attribute o f p')) pos.line X.env = pure false := by rfl) : PS X (.Assign [.Attribute o f p'] e pos) (tOsK X.K f to te) := by
  refine ⟨fun pins s σ H D I h => ?_⟩
  refine plainObj_wpAny_Assign_Attribute (thn (he.run pins s σ H _ I h) fun v s1 z1 => ?_) hs
  obtain ⟨y, H1, I1, r1, q1⟩ := z1
  refine thn (ho.run pins s1 σ H1 _ I1 q1) fun u s2 z2 => ?_
  obtain ⟨x, H2, I2, r2, a, C, ex, T, hno, ea, q⟩ := z2
  subst ex
  obtain rfl : u = Value.ref a := r2
  exact ostK T I2 ea hno r1 fun dx s' n ne J => ⟨σ, _, J, q dx n ne⟩
theorem pe_exf (he : PE X e te) (hb : attributeBase e f X.env (eval e X.env) = eval e X.env := by rfl) : PE X (.Attribute e f pos) (tExf X.K f te) := by
  refine ⟨fun pins s σ H Q I h => ?_⟩
  refine attr_of hb (thn (he.run pins s σ H _ I h) fun u s1 z => ?_)
  obtain ⟨x, H1, I1, rx, a, C, fs, v, ex, T, hno, er, l, q⟩ := z
  subst ex
  obtain rfl : u = Value.ref a := rx
  rcases er with ⟨rfl, _⟩ | ⟨dx, e1, e2⟩
  · cases l
  obtain ⟨t1, ho⟩ := exo_at I1.hok e1
  obtain ⟨mA, hns, hr⟩ := exd_at I1.hok e2
  obtain ⟨od, hod, hl⟩ := lookIn_ns hns
  obtain ⟨u, hu, ru⟩ := RelO.some_of (v := v) (o := mA f) (by rw [← l]; exact hr f)
  have J : PySem.W.InstAt s1.heap a { cls := .ref C, dict := some dx, data := .fields #[.ref t1, .none, .none, .none, .bool false, .none] } C (some od) := ⟨ho, rfl, rfl, hod⟩
  exact HandSPX.exc_get I1.kIn J T.ga T.gg T.ex (PySem.W.findObj_own T.hd hno rfl (by rw [hl, hu])) (handed_of ru) ⟨v, H1, I1.tok _, ru, q⟩
theorem kitxK {K : PySem.W.Frag} {C x : Addr} {ox : Obj} {od : Option Obj} (T : EX K C) : PySem.W.KitX K (.ref x) (.ref C) (fun h => PySem.W.InstAt h x ox C od) := by
  obtain ⟨cd, hc, _⟩ := PySem.W.any_some T.hd
  exact PySem.W.kitx_exc (by rw [hc]; rfl) T.ga T.gg T.ex T.ca T.cg T.ct T.mo
theorem call_isX : CallR X (.builtin "isinstance") (rIsX X.K) := by
  intro pins s σ H xs us Q I r h
  obtain ⟨a, C, fs, c, u, b, rfl, T, er, k, e, q⟩ := h
  obtain ⟨u1, u2, rfl, r1, r2⟩ := vals2 r
  have e2 := k.eq r2
  subst e2
  obtain rfl : u1 = Value.ref a := r1
  obtain ⟨ox, od, J⟩ := er.inst I.hok
  exact PySem.W.kia_one (kitxK T) I.kIn J e (fun z => nomatch z) fun tk => ⟨.bl b, H, I.tok tk, rfl, q⟩
theorem call_isXT : CallR X (.builtin "isinstance") (rIsXT X.K) := by
  intro pins s σ H xs us Q I r h
  obtain ⟨a, C, tp, fs, cs, ws, b, rfl, T, er, hT, k, e, q⟩ := h
  obtain ⟨u1, u2, rfl, r1, r2⟩ := vals2 r
  obtain rfl : u1 = Value.ref a := r1
  obtain rfl : u2 = Value.ref tp := r2
  obtain ⟨ox, od, J⟩ := er.inst I.hok
  obtain ⟨_, its, rv, o, h1, h2, n, h3⟩ := (show ObjOk X.prog X.w H s.heap tp (.tup cs) from I.hok tp _ hT)
  have e3 := ClsV.all k rv
  subst e3
  obtain ⟨oc, od', dt, sl⟩ := o
  simp only at h2 h3
  subst h2 h3
  exact PySem.W.kia_tup (kitxK T) I.kIn J h1 e (fun z => nomatch z) fun tk => ⟨.bl b, H, I.tok tk, rfl, q⟩
/-! ### made -/
theorem run_mkX {CX : CXT} {C fI : Addr} {k : Nat} {fd : FuncData} {ps : List Str} {sp : Sp} {pins : List (Addr × Obj)} {σ : L2.St} {H : Hp} {s : Shared} {Q : VK} {us bound : List Value} {kw : List (Str × Value)} {vs : List V} (T : EX X.K C)
    (iC : PySem.W.findIn X.K (.ref C) "__init__" = some (some (.ref fI))) (tI : PySem.W.typeIn X.K (.ref fI) = some (.type "function")) (F1 : FnOk X.prog X.w X.K X.mg X.base CX k fI fd ps sp) (hr : Room (k + 1) X.A) (hx : Passes CX X (fun _ _ _ => False))
    (I : Inv X pins σ H s) (r : Vals vs bound) (hus : us.length ≤ sizeLine) (hb : ∀ (t : Shared) (a : Addr), X.K.In t.heap → BindsTo t fd ⟨.ref a :: us, kw⟩ (ps.zip (.ref a :: bound)))
    (h : ∀ a, H a = none → sp (.ref a :: vs) (upd H a (exo a C none)) (fun v H2 => v = .non ∧ Q (.ref a) H2) (fun _ _ _ => False)) : wpAny (model X.prog X.w) X.A (call (.ref C) us kw) (EP X pins σ Q) X.xe s := by
  obtain ⟨B, newId, initId, bmB, EF, _, ini, _⟩ := T.base
  obtain ⟨nm, N, qn, bs, bm, hdct, sn, sub, ab, col, dd, k0, k1, k2, k3, k5, hC, tail⟩ := PySem.W.excInit_of I.kIn ini
  obtain ⟨hp, g, dr, tk, os⟩ := s
  have sz : hp.objs.size ≤ hp.objs.size + 1 := Nat.le_succ _
  have hq := h (hp.objs.size + 1) (I.hok.fresh sz)
  have kk : ∀ b o, hp.get? b = some o → ((hp.push (PySem.W.kdv_tup us)).push (exN C hp.objs.size)).get? b = some o := fun b o e => Heap.get?_push_of_some _ (Heap.get?_push_of_some _ e)
  have gt : ((hp.push (PySem.W.kdv_tup us)).push (exN C hp.objs.size)).get? (hp.objs.size + 1) = some (exN C hp.objs.size) := by heap_get
  have I2 : Inv X pins σ (upd H (hp.objs.size + 1) (exo (hp.objs.size + 1) C none)) ⟨(hp.push (PySem.W.kdv_tup us)).push (exN C hp.objs.size), g, dr, tk, os⟩ :=
    I.laid (t' := tk) (a := hp.objs.size + 1) (o := exo (hp.objs.size + 1) C none) (h' := (hp.push (PySem.W.kdv_tup us)).push (exN C hp.objs.size)) kk sz (exo_ok gt)
  have r2 : Vals (V.ref (hp.objs.size + 1) :: vs) (Value.ref (hp.objs.size + 1) :: bound) := .cons rfl r
  refine wpAny_call (ownK EF tail hC (PySem.W.looks_findIn I.kIn iC) (fun self => PySem.W.bind_fn I.kIn self tI) hus
    (codeAny_mono (F1.run _ X.stack _ _ ⟨Value.ref (hp.objs.size + 1) :: us, kw⟩ _ _ _ (fun _ _ _ => False) (hr.make C us kw) (I2.env0.make C us kw) (hb _ _ I2.kIn) r2 hq) fun r s' hq' => ?_))
  cases r with
  | error er => exact hx pins σ _ _ er s' I2 hq'
  | ok fl =>
    cases fl with
    | ret u =>
      obtain ⟨v, H', I3, rv, ev, q3⟩ := I2.after hq'
      subst ev
      exact ⟨rv, ⟨V.ref (hp.objs.size + 1), H', I3, rfl, q3⟩⟩
    | next => exact False.elim hq'
    | brk => exact False.elim hq'
    | cont => exact False.elim hq'
/-- an own error class as its makers see it -/
structure Mx (P : Program) (w : World) (K : PySem.W.Frag) (mg : Str → Option Value) (base : Heap) (k : Nat) (x : Str) (ps : List Str) (sp : Sp) (C fI : Addr) (fd : FuncData) : Prop where
  t : EX K C
  m : mg x = some (.ref C)
  i : PySem.W.findIn K (.ref C) "__init__" = some (some (.ref fI))
  ti : PySem.W.typeIn K (.ref fI) = some (.type "function")
  ok : FnOk P w K mg base CX0 k fI fd ("self" :: ps) sp
  b : Binds K fd ("self" :: ps) []
section
variable {k : Nat} {x : Str} {ps : List Str} {sp : Sp} {C fI : Addr} {fd : FuncData}
theorem pe_mkX (M : Mx X.prog X.w X.K X.mg X.base k x ps sp C fI fd) (hr : Room (k + 1) X.A) (hx : Passes CX0 X (fun _ _ _ => False)) (hg : Gl X x) (ha : PA X (e :: es) ta)
    (hdb : (x == ("__debug__" : Str)) = false := by decide) (he : starEach (e :: es) X.env = (false, eval e X.env) :: starEach es X.env := by rfl) (hpl : (backTo pos (starEach es X.env)).any (·.1) = false := by rfl) :
    PE X (.Call (.Name x p) (e :: es) [] pos) (tMkX C sp ta) := by
  refine ⟨fun pins s σ H Q I h => ?_⟩
  refine wpAny_Call_Name_kw (ld_glob I hg M.m ?_ hdb)
  refine PySem.W.callWith_K (h₀ := X.base) I.ok.mod.kin M.t.kp (thn (ha.run pos pins s σ H _ I h) fun us s1 z => ?_) he hpl
  obtain ⟨vs, H1, I1, r1, hz, q1⟩ := z
  refine ⟨I1.kIn, ?_⟩
  have lu : us.length ≤ 1000 := by rw [← r1.length]; exact hz
  have lf := M.ok.len _ _ _ _ (q1 _ (I1.hok.fresh (Nat.le_refl _)))
  refine run_mkX M.t M.i M.ti M.ok hr hx I1 r1 (Nat.le_trans lu (by rw [sizeLine_eq]; omega)) (fun t a KX => ?_) q1
  have hl : ((Value.ref a :: us) ++ []).length = (("self" : Str) :: ps).length := by
    rw [List.append_nil, List.length_cons, ← lf, List.length_cons, r1.length]
  have z := M.b t (Value.ref a :: us) KX hl
  rw [List.append_nil] at z
  exact z
theorem pe_mkX0 (M : Mx X.prog X.w X.K X.mg X.base k x [] sp C fI fd) (hr : Room (k + 1) X.A) (hx : Passes CX0 X (fun _ _ _ => False)) (hg : Gl X x) (hdb : (x == ("__debug__" : Str)) = false := by decide) :
    PE X (.Call (.Name x p) [] [] pos) (tMkX C sp tNil) := by
  refine ⟨fun pins s σ H Q I h => ?_⟩
  refine wpAny_Call_Name_kw (ld_glob I hg M.m ?_ hdb)
  refine PySem.W.callWith_K0 I.kIn M.t.kp ?_
  exact run_mkX M.t M.i M.ti M.ok hr hx I .nil (Nat.zero_le _) (fun t a KX => M.b t [Value.ref a] KX rfl) h.2
/-- C(n = e) -/
theorem pe_mkXK {n : Str} {kpos : Pos} (M : Mx X.prog X.w X.K X.mg X.base k x [n] sp C fI fd) (hkb : ∀ (t : Shared) (a u : Value), BindsTo t fd ⟨[a], [(n, u)]⟩ [("self", a), (n, u)]) (hr : Room (k + 1) X.A) (hx : Passes CX0 X (fun _ _ _ => False)) (hg : Gl X x) (he : PE X e te) (hdb : (x == ("__debug__" : Str)) = false := by decide)
    (hall : (backToKw pos (keywordEach [⟨some n, e, kpos⟩] X.env)).all (·.1.isSome) = true := by rfl) (hks : (backToKw pos (keywordEach [⟨some n, e, kpos⟩] X.env)).filterMap (·.1) = [n] := by rfl)
    (hpl : ((backTo pos (starEach [] X.env)).any (·.1) || (backToKw pos (keywordEach [⟨some n, e, kpos⟩] X.env)).any (·.1.isNone)) = false := by rfl) :
    PE X (.Call (.Name x p) [] [⟨some n, e, kpos⟩] pos) (tMkX C sp (tCons te tNil)) := by
  refine ⟨fun pins s σ H Q I h => ?_⟩
  refine wpAny_Call_Name_kw (ld_glob I hg M.m ?_ hdb)
  refine PySem.W.callWith_KW0 (h₀ := X.base) I.ok.mod.kin M.t.kp hall ?_ hpl
  refine thn ((pk_cons he pk_nil).run pos pins s σ H _ I h) fun ws s2 z => ?_
  obtain ⟨zs, H2, I2, rz, hz, q2⟩ := z
  refine ⟨I2.kIn, ?_⟩
  rw [hks]
  have lf := M.ok.len _ _ _ _ (q2 _ (I2.hok.fresh (Nat.le_refl _)))
  have lw : ws.length = 1 := by
    rw [← rz.length]
    have : (V.ref s2.heap.objs.size :: zs).length = 2 := lf
    rw [List.length_cons] at this
    omega
  match ws, lw with
  | [u], _ => exact run_mkX (us := []) (kw := [(n, u)]) M.t M.i M.ti M.ok hr hx I2 rz (Nat.zero_le _) (fun t a KX => hkb t (.ref a) u) q2
end
end
end Hs

set_option Elab.async false
set_option linter.all false
set_option maxRecDepth 100000
set_option maxHeartbeats 4000000
namespace K15
open PySem PySem.Spec PyProof.Rows L2 Hs
def topS (i : Nat) : Stmt := PySem.Challenge.pw_handshakes_k15_errors_by_hand.main.body.getD i (.Pass ⟨0, 0, 0, 0⟩)
/-- the first def of a class -/
def inC : Stmt → Stmt
  | .ClassDef _ _ _ (st :: _) .. => st
  | st => st
abbrev sCopied : Stmt := topS 1
abbrev sBadText : Stmt := inC (topS 2)
abbrev sBadLine : Stmt := inC (topS 3)
abbrev sOtherPeople : Stmt := inC (topS 4)
abbrev sUnfit : Stmt := inC (topS 5)
abbrev sImpossible : Stmt := inC (topS 6)
abbrev sNoPerson : Stmt := inC (topS 7)
abbrev sNoArm : Stmt := inC (topS 8)
abbrev sNoPlace : Stmt := inC (topS 9)
abbrev sNoNumber : Stmt := inC (topS 10)
abbrev sNoOperation : Stmt := inC (topS 11)
abbrev sBlocked : Stmt := inC (topS 12)
abbrev sTooMany : Stmt := inC (topS 13)
abbrev sFull : Stmt := inC (topS 14)
abbrev sCellAt : Stmt := topS 17
abbrev sBox : Stmt := topS 18
abbrev sTake : Stmt := topS 19
abbrev sSame : Stmt := topS 20
abbrev sFlags : Stmt := topS 21
abbrev sOneRight : Stmt := topS 22
abbrev sRight : Stmt := topS 23
abbrev sLaw : Stmt := topS 24
theorem dpAll_len {K : PySem.W.Frag} {H : Hp} : ∀ {ds : List PyData} {xs : List V}, DpAll K H xs ds → xs.length = ds.length
  | [], _, h => by cases h; rfl
  | _ :: ds, _, h => by cases h with | cons _ r => rw [List.length_cons, List.length_cons, dpAll_len r]
theorem dpAll_get {K : PySem.W.Frag} {H : Hp} : ∀ {ds : List PyData} {xs : List V} {i : Nat} {x : V}, DpAll K H xs ds → xs[i]? = some x → Dp K H x (ds.getD i .none)
  | [], _, _, _, h, e => by cases h; simp at e
  | d :: ds, _, 0, x, h, e => by
    cases h with
    | cons q _ =>
      have z := Option.some.inj e
      subst z
      exact q
  | d :: ds, _, i + 1, x, h, e => by
    cases h with
    | cons _ r => exact dpAll_get (i := i) r e
theorem dpAll_snoc {K : PySem.W.Frag} {H : Hp} : ∀ {ds : List PyData} {xs : List V} {d : PyData} {x : V}, DpAll K H xs ds → Dp K H x d → DpAll K H (xs ++ [x]) (ds ++ [d])
  | [], _, _, _, h, q => by cases h; exact .cons q .nil
  | _ :: _, _, _, _, h, q => by cases h with | cons a b => exact .cons a (dpAll_snoc b q)
theorem sizeBig {n : Nat} (h : n ≤ 1000) : n ≤ sizeLine := Nat.le_of_lt (small1000 h)
theorem same_grow {H G : Hp} {D : Addr} {o : HO} (nD : H D = none) (sm : Same H G) : Same H (upd G D o) := fun b z e => by rw [upd_ne (ne_of_none e nD)]; exact sm b z e
def hid (G : Hp) (D : Addr) : Hp := fun b => if b = D then none else G b
theorem hid_ne {G : Hp} {D b : Addr} (h : b ≠ D) : hid G D b = G b := if_neg h
theorem hid_at {G : Hp} {D : Addr} : hid G D D = none := if_pos rfl
theorem hid_same (G : Hp) (D : Addr) : Same (hid G D) G := fun b z e => by
  by_cases h : b = D
  · rw [h, hid_at] at e; cases e
  · rw [hid_ne h] at e; exact e
theorem hid_upd {G : Hp} {D : Addr} {o : HO} : hid (upd G D o) D = hid G D := by
  funext b
  by_cases h : b = D
  · rw [h, hid_at, hid_at]
  · rw [hid_ne h, hid_ne h, upd_ne h]
theorem hid_mono {G G' : Hp} {D : Addr} (e : Same G G') : Same (hid G D) (hid G' D) := fun b z q => by
  by_cases h : b = D
  · rw [h, hid_at] at q; cases q
  · rw [hid_ne h] at q ⊢; exact e b z q
theorem hid_id {G : Hp} {D : Addr} (h : G D = none) : hid G D = G := by
  funext b
  by_cases e : b = D
  · rw [e, hid_at, h]
  · exact hid_ne e
def boxLine : Int := 1099511627776
def BoxAt (H : Hp) (b : Addr) (n : Nat) : Prop := ∃ x y z : Int, H b = some (.lst [.int x, .int y, .int z]) ∧ 0 ≤ x ∧ 0 ≤ z ∧ z + n ≤ boxLine
def Ap (b : Addr) (H G : Hp) : Prop := Same (hid H b) (hid G b)
theorem Ap.refl (b : Addr) (H : Hp) : Ap b H H := Same.refl _
theorem Ap.trans {b : Addr} {H G J : Hp} (h : Ap b H G) (k : Ap b G J) : Ap b H J := Same.trans h k
theorem ap_same {b : Addr} {H G : Hp} (h : Same H G) : Ap b H G := hid_mono h
theorem ap_upd {b : Addr} {H : Hp} {o : HO} : Ap b H (upd H b o) := fun a z e => by rw [hid_upd]; exact e
theorem BoxAt.mono {H : Hp} {b : Addr} {n m : Nat} (h : BoxAt H b n) (hm : m ≤ n) : BoxAt H b m := by
  obtain ⟨x, y, z, e, h1, h2, h3⟩ := h
  exact ⟨x, y, z, e, h1, h2, by omega⟩
theorem BoxAt.same {H G : Hp} {b : Addr} {n : Nat} (h : BoxAt H b n) (s : Same H G) : BoxAt G b n := by
  obtain ⟨x, y, z, e, h1, h2, h3⟩ := h
  exact ⟨x, y, z, s _ _ e, h1, h2, h3⟩
theorem BoxAt.some {H : Hp} {b : Addr} {n : Nat} (h : BoxAt H b n) : ∃ o, H b = some o := by
  obtain ⟨x, y, z, e, _⟩ := h
  exact ⟨_, e⟩
theorem hid_lst {H : Hp} {b a : Addr} {o : HO} (h : H a = some o) (ne : a ≠ b) : hid H b a = some o := by rw [hid_ne ne]; exact h
structure Fx (P : Program) (w : World) (K : PySem.W.Frag) (mg : Str → Option Value) (base : Heap) (k : Nat) (x : Str) (ps : List Str) (sp : Sp) (f : Addr) (fd : FuncData) : Prop where
  ok : FnOk P w K mg base CX0 k f fd ps sp
  m : mg x = some (.ref f)
  k : PySem.W.keepIn K (.ref f) = true
  b : Binds K fd ps []
theorem box_ne {H : Hp} {b p : Addr} {n : Nat} (h : BoxAt H b n) (hp : H p = none) : p ≠ b := fun e => by
  obtain ⟨o, z⟩ := h.some
  rw [e, z] at hp; cases hp
theorem box_up {b a : Addr} {G : Hp} {o : HO} {n : Nat} (h : BoxAt G b n) (ne : a ≠ b) : BoxAt (upd G a o) b n := by
  obtain ⟨x, y, z, e, h1, h2, h3⟩ := h
  exact ⟨x, y, z, by rw [upd_ne (Ne.symm ne)]; exact e, h1, h2, h3⟩
theorem ap_get {b a : Addr} {H G : Hp} {o : HO} (h : Ap b H G) (e : H a = some o) (ne : a ≠ b) : G a = some o := by
  have z := h a o (hid_lst e ne)
  rw [hid_ne ne] at z; exact z
theorem ap_up {b a : Addr} {H G : Hp} {o : HO} (h : Ap b H G) (na : H a = none) : Ap b H (upd G a o) := fun c z e => by
  have ne : c ≠ b := fun q => by rw [q, hid_at] at e; cases e
  have nc : c ≠ a := fun q => by rw [hid_ne ne, q, na] at e; cases e
  have y := h c z e
  rw [hid_ne ne] at y ⊢
  rw [upd_ne nc]; exact y
theorem kit2 {K : PySem.W.Frag} {T U : String} {f g : PyData → Bool} (kf : ∀ d, kitB (tyD d) T = some (f d)) (kg : ∀ d, kitB (tyD d) U = some (g d)) (d : PyData) : PySem.W.kitAny K (.type (tyD d)) [.type T, .type U] = some (f d || g d) := by
  refine kitAny_cons (kit_ty (kf d)) (fun e => ?_) (fun e => by rw [e]; rfl)
  refine kitAny_cons (kit_ty (kg d)) (fun e2 => ?_) (fun e2 => by rw [e2]; simp)
  rw [e, e2]; rfl
theorem walk_zipT {K : PySem.W.Frag} {a b : Addr} {xs ys : List V} {n : Nat} (hn : n = min xs.length ys.length) : Walk (RZ.ItzT K a b) n (fun H => SqT K H a xs ∧ SqT K H b ys) (YPair (fun i => xs[i]?) (fun i => ys[i]?)) := by
  subst hn
  refine ⟨fun i H hi q => ?_, fun H q => ⟨xs, ys, q.1, q.2, by omega⟩, fun i H v G _ q y => ?_⟩
  · exact ⟨xs, ys, xs[i]'(by omega), ys[i]'(by omega), q.1, q.2, List.getElem?_eq_getElem (by omega), List.getElem?_eq_getElem (by omega)⟩
  · obtain ⟨T, x, z, h1, h2, h3, h4, h5⟩ := y
    exact ⟨T, x, z, h1, h2, h3, h4 xs q.1, h5 ys q.2⟩
theorem depth_mem {ds : List PyData} {i : Nat} (h : i < ds.length) : (ds.getD i .none).depth ≤ PyData.depthAll ds := by
  induction ds generalizing i with
  | nil => cases h
  | cons d ds ih =>
    cases i with
    | zero => exact Nat.le_max_left _ _
    | succ i => exact Nat.le_trans (ih (by simpa using h)) (Nat.le_max_right _ _)
mutual
def numD : PyData → Nat
  | .list xs => numL xs + 1
  | .tuple xs => numL xs + 1
  | .none => 1 | .bool _ => 1 | .int _ => 1 | .str _ => 1 | .dict _ => 1
def numL : List PyData → Nat
  | [] => 0
  | x :: xs => numD x + numL xs
end
theorem numD_pos (d : PyData) : 1 ≤ numD d := by cases d <;> simp only [numD] <;> omega
theorem num_len (ds : List PyData) : ds.length ≤ numL ds := by
  induction ds with
  | nil => exact Nat.le_refl _
  | cons d ds ih =>
    have := numD_pos d
    simp only [numL, List.length_cons]; omega
theorem num_mem {ds : List PyData} {i : Nat} (h : i < ds.length) : numD (ds.getD i .none) ≤ numL ds := by
  induction ds generalizing i with
  | nil => cases h
  | cons d ds ih =>
    cases i with
    | zero => simp only [numL, List.getD_cons_zero]; omega
    | succ i =>
      have := ih (i := i) (by simpa using h)
      simp only [numL, List.getD_cons_succ]; omega
theorem all_true (n : Nat) : ((List.replicate n true)).all id = true := by
  rw [List.all_eq_true]
  intro x hx
  rw [List.eq_of_mem_replicate hx]; rfl
theorem b01 (b : Bool) : (-(2 ^ 64) : Int) < (if b = true then 1 else 0) ∧ (if b = true then (1 : Int) else 0) < 2 ^ 64 := by cases b <;> decide
theorem mul01 {u : Int} (h : 0 ≤ u) (b : Bool) : 0 ≤ u * (if b = true then 1 else 0) := by
  cases b with
  | true => rw [if_pos rfl, Int.mul_one]; exact h
  | false => rw [if_neg Bool.false_ne_true, Int.mul_zero]; exact Int.le_refl 0
section
variable {P : Program} {w : World} {K : PySem.W.Frag} {mg : Str → Option Value} {base : Heap} {f : Addr} {fd : FuncData}
def spCell (K : PySem.W.Frag) : Sp := fun vs H Q _ => ∃ (a : Addr) (ns : List Int) (k : Int), vs = [.ref a, .int k] ∧ SqL K H a (ns.map V.int) ∧ 0 ≤ k ∧ ∀ c, Q (.int c) H
theorem scCellAt : FnScope ["_law_script", "_law_k"] ["_law_script", "_law_k"] (defScope sCellAt) := ⟨rfl, rfl, rfl, by decide +kernel, rfl, by decide +kernel, by decide +kernel⟩
theorem ok_cell_at {k : Nat} (F : Fun K "_law_cell_at" "_law_cell_at" sCellAt f fd) (B : B0 mg) : FnOk P w K mg base CX0 (k + 1) f fd ["_law_script", "_law_k"] (spCell K) := by
  refine F.ok scCellAt (fun vs H Q E h => ?_) (fun cdv A outer s H vs Q E hr h => ?_)
  · obtain ⟨a, ns, i, rfl, _⟩ := h; rfl
  obtain ⟨a, ns, i, rfl, hS, h0, q⟩ := h
  refine ⟨_, pss_cons (ps_if (pt_cmpR op_lt (pv 1) (pe_callB call_len_seq (by rfl) B.len PySem.boot_len (pa_cons (pv 0) pa_nil)) (nomark _)) (pss_one (ps_ret (pe_ix ix_list (pv 0) (pv 1) (fun _ _ => rfl)))) pss_nil) (pss_one (ps_ret pe_int)), ?_⟩
  refine ⟨_, rfl, _, rfl, a, _, rfl, .inl hS, _, _, rfl, rfl, _, rfl, ite2 (fun c => ?_) (fun c => q 0)⟩
  have c' : i < (((ns.map V.int).length : Nat) : Int) := of_decide_eq_true c
  rw [List.length_map] at c'
  have hi : i.toNat < ns.length := by omega
  have e : (ns.map V.int)[i.toNat]? = some (.int ns[i.toNat]) := by rw [List.getElem?_map, List.getElem?_eq_getElem hi]; rfl
  have z := atI_nat e
  rw [show ((i.toNat : Nat) : Int) = i by omega] at z
  exact ⟨_, rfl, _, rfl, a, _, i, _, rfl, rfl, hS, z, q _⟩
def spBox (K : PySem.W.Frag) : Sp := fun vs H Q _ => ∃ (a : Addr) (ns : List Int) (k : Int), vs = [.ref a, .int k] ∧ SqL K H a (ns.map V.int) ∧ 0 ≤ k ∧ ∀ b x y, H b = none → 0 ≤ x → Q (.ref b) (upd H b (.lst [.int x, .int y, .int 0]))
theorem scBox : FnScope ["_law_script", "_law_k", "_law_core"] ["_law_script", "_law_k"] (defScope sBox) := ⟨rfl, rfl, rfl, by decide +kernel, rfl, by decide +kernel, by decide +kernel⟩
theorem ok_box {k : Nat} {g : Addr} {gd : FuncData} (F : Fun K "_law_box" "_law_box" sBox f fd) (B : B0 mg) (G : FnOk P w K mg base CX0 k g gd ["_law_script", "_law_k"] (spCell K)) (bG : Binds K gd ["_law_script", "_law_k"] []) (kG : PySem.W.keepIn K (.ref g) = true) (mG : mg "_law_cell_at" = some (.ref g)) :
    FnOk P w K mg base CX0 (k + 1) f fd ["_law_script", "_law_k"] (spBox K) := by
  refine F.ok scBox (fun vs H Q E h => ?_) (fun cdv A outer s H vs Q E hr h => ?_)
  · obtain ⟨a, ns, i, rfl, _⟩ := h; rfl
  obtain ⟨a, ns, i, rfl, hS, h0, q⟩ := h
  refine ⟨_, pss_cons (ps_set (i := 2) scBox.nd rfl (.inl rfl) (pe_call G hr (by rfl) mG kG bG .nil pass0 (pa_cons (pv 0) (pa_cons (pv 1) pa_nil))))
    (pss_one (ps_ret (pe_lst (pa_cons (pe_op op_mul (pe_callB call_abs (by rfl) B.abs (by decide +kernel) (pa_cons (pv 2) pa_nil)) (pe_callTy call_int1 (by rfl) B.int PyProof.Rows.boot_int (pa_cons (pe_cmpR op_ge (pe_callB call_abs (by rfl) B.abs (by decide +kernel) (pa_cons (pv 2) pa_nil)) (pe_op op_pow pe_int pe_int) (nomark _)) pa_nil)))
      (pa_cons (pe_op op_add (pe_op op_add (pe_op op_mod (pv 2) pe_int) (pe_op op_mul pe_int (pv 1))) pe_int) (pa_cons pe_int pa_nil)))))), ?_⟩
  refine ⟨_, rfl, _, rfl, a, ns, i, rfl, hS, h0, fun c => ?_⟩
  refine ⟨_, rfl, c, rfl, _, rfl, c, rfl, 10, 18, rfl, rfl, ⟨by decide, by decide, by decide⟩, _, _, rfl, rfl, .inr ⟨_, rfl, ?_⟩⟩
  refine ⟨_, _, rfl, rfl, .inr (b01 _), _, rfl, _, _, rfl, rfl, (show (0 : Int) < 2305843009213693951 by decide), _, rfl, _, _, rfl, rfl, .inl ⟨by decide, by decide⟩, _, _, rfl, rfl, _, _, rfl, rfl, (by show 3 ≤ sizeLine; decide), fun b nb => q b _ _ nb ?_⟩
  exact mul01 (by split <;> omega) _
def spTake (K : PySem.W.Frag) : Sp := fun vs H Q _ => ∃ b m n, vs = [.ref b, .int m] ∧ 0 < m ∧ m ≤ 10000000 ∧ BoxAt H b (n + 1) ∧ ∀ r G, 0 ≤ r → r < m → Ap b H G → BoxAt G b n → Q (.int r) G
theorem scTake : FnScope ["_law_box_here", "_law_below", "_law_found", "_law_once", "_law_twice"] ["_law_box_here", "_law_below"] (defScope sTake) := ⟨rfl, rfl, rfl, by decide +kernel, rfl, by decide +kernel, by decide +kernel⟩
def spNo : Sp := fun _ _ _ _ => False
theorem ok_no {ps : List Str} : FnOk P w K mg base CX0 0 f fd ps spNo := ⟨fun _ _ _ _ h => h.elim, fun _ _ _ _ _ _ _ _ _ _ _ _ _ h => h.elim⟩
theorem ok_take (F : Fun K "_law_take" "_law_take" sTake f fd) (bF : Binds K fd ["_law_box_here", "_law_below"] []) (mF : mg "_law_take" = some (.ref f)) : FnOk P w K mg base CX0 1 f fd ["_law_box_here", "_law_below"] (spTake K) := by
  have N : FnOk P w K mg base CX0 0 f fd ["_law_box_here", "_law_below"] spNo := ok_no
  refine F.ok scTake (fun vs H Q E h => ?_) (fun cdv A outer s H vs Q E hr h => ?_)
  · obtain ⟨b, m, n, rfl, _⟩ := h; rfl
  obtain ⟨b, m, n, rfl, m0, m1, ⟨x, y, z, hb, hx, hz, hn⟩, q⟩ := h
  refine ⟨_, pss_cons (ps_if (pt_cmpR op_gt (pe_ix ix_list (pv 0) pe_int (fun _ _ => rfl)) pe_int (nomark _))
      (pss_cons (ps_set (i := 2) scTake.nd rfl (.inl rfl) (pe_op op_mod (pe_ix ix_list (pv 0) pe_int (fun _ _ => rfl)) (pv 1)))
      (pss_cons (ps_asg (pe_op op_fdiv (pe_ix ix_list (pv 0) pe_int (fun _ _ => rfl)) (pv 1)) (pg_sub (pv 0) pe_int set_list))
      (pss_one (ps_ret (pv 2))))) pss_nil)
    (pss_cons (ps_if (pt_cmpR op_gt (pv 1) (pe_op op_pow pe_int pe_int) (nomark _))
      (pss_one (ps_ret (pe_op op_mod (pe_op op_add (pe_call N hr (by rfl) mF F.kp bF .nil pass0 (pa_cons (pv 0) (pa_cons (pe_op op_pow pe_int pe_int) pa_nil))) (pe_op op_mul (pe_op op_pow pe_int pe_int) (pe_call N hr (by rfl) mF F.kp bF .nil pass0 (pa_cons (pv 0) (pa_cons (pe_op op_add (pe_op op_fdiv (pv 1) (pe_op op_pow pe_int pe_int)) pe_int) pa_nil))))) (pv 1)))) pss_nil)
    (pss_cons (ps_asg (pe_op op_add (pe_ix ix_list (pv 0) pe_int (fun _ _ => rfl)) pe_int) (pg_sub (pv 0) pe_int set_list))
    (pss_cons (ps_set (i := 3) scTake.nd rfl (.inl rfl) (pe_op op_mod (pe_op op_mul (pe_op op_add (pe_ix ix_list (pv 0) pe_int (fun _ _ => rfl)) (pe_op op_mul pe_int (pe_ix ix_list (pv 0) pe_int (fun _ _ => rfl)))) (pe_op op_add pe_int (pe_ix ix_list (pv 0) pe_int (fun _ _ => rfl)))) pe_int))
    (pss_cons (ps_set (i := 4) scTake.nd rfl (.inl rfl) (pe_op op_mod (pe_op op_mul (pe_op op_add (pe_op op_add (pv 3) (pe_ix ix_list (pv 0) pe_int (fun _ _ => rfl))) (pe_op op_fdiv (pe_ix ix_list (pv 0) pe_int (fun _ _ => rfl)) pe_int)) (pe_op op_add (pe_op op_mod (pv 3) pe_int) pe_int)) pe_int))
    (pss_one (ps_ret (pe_op op_mod (pe_op op_fdiv (pe_op op_mod (pe_op op_add (pe_op op_mul (pv 4) pe_int) (pv 3)) pe_int) pe_int) (pv 1)))))))), ?_⟩
  have hL : SqL K H b [.int x, .int y, .int z] := SqL.of hb
  refine ⟨_, rfl, b, _, 0, _, rfl, rfl, hL, rfl, _, _, rfl, rfl, _, rfl, ite2 (fun c => ?_) (fun c => ?_)⟩
  · -- the great number is used up digit by digit
    refine ⟨_, rfl, b, _, 0, _, rfl, rfl, hL, rfl, _, rfl, _, _, rfl, rfl, m0, ?_⟩
    refine ⟨_, rfl, b, _, 0, _, rfl, rfl, hL, rfl, _, rfl, _, _, rfl, rfl, ⟨m0, by omega⟩, _, rfl, b, _, 0, 0, rfl, rfl, hb, rfl, ?_⟩
    refine ⟨_, rfl, q _ _ (Int.emod_nonneg _ (by omega)) (Int.emod_lt_of_pos _ m0) ap_upd ⟨x / m, y, z, upd_same, Int.ediv_nonneg hx (by omega), hz, by omega⟩⟩
  · refine ⟨_, rfl, 10, 7, rfl, rfl, ⟨by decide, by decide, by decide⟩, _, _, rfl, rfl, _, rfl, ?_⟩
    have small : ¬ (10 : Int) ^ (7 : Int).toNat < m := by
      have : (10 : Int) ^ (7 : Int).toNat = 10000000 := by decide
      omega
    rw [decide_eq_false small]
    refine iteF ⟨_, rfl, b, _, 2, _, rfl, rfl, hL, rfl, _, _, rfl, rfl, _, rfl, b, _, 2, 2, rfl, rfl, hb, rfl, ?_⟩
    have hb2 : (upd H b (.lst (([.int x, .int y, .int z] : List V).set 2 (.int (z + 1))))) b = some (.lst [.int x, .int y, .int (z + 1)]) := upd_same
    have hL2 : SqL K (upd H b (.lst (([.int x, .int y, .int z] : List V).set 2 (.int (z + 1))))) b [.int x, .int y, .int (z + 1)] := SqL.of hb2
    unfold boxLine at hn
    refine ⟨_, rfl, b, _, 1, _, rfl, rfl, hL2, rfl, _, rfl, b, _, 2, _, rfl, rfl, hL2, rfl, _, _, rfl, rfl, .inl ⟨by decide, by decide⟩, _, _, rfl, rfl, _, rfl, b, _, 2, _, rfl, rfl, hL2, rfl, _, _, rfl, rfl, _, _, rfl, rfl, .inr ⟨by omega, by omega⟩, _, _, rfl, rfl, (show (0 : Int) < 2147483647 by decide), ?_⟩
    show gName 3 (V.int ((y + 48271 * (z + 1)) * (39373 + (z + 1)) % 2147483647)) _ _ _
    generalize (y + 48271 * (z + 1)) * (39373 + (z + 1)) % 2147483647 = u
    have u7 : 0 ≤ u % 40009 := Int.emod_nonneg _ (by decide)
    have u8 : u % 40009 < 40009 := Int.emod_lt_of_pos _ (by decide)
    refine ⟨_, rfl, _, rfl, b, _, 2, _, rfl, rfl, hL2, rfl, _, _, rfl, rfl, _, rfl, b, _, 1, _, rfl, rfl, hL2, rfl, _, _, rfl, rfl, ⟨by decide, by decide⟩, _, _, rfl, rfl, _, rfl, _, _, rfl, rfl, (show (0 : Int) < 40009 by decide), _, _, rfl, rfl, _, _, rfl, rfl, .inr ⟨by omega, by omega⟩, _, _, rfl, rfl, (show (0 : Int) < 2147483629 by decide), ?_⟩
    refine ⟨_, rfl, _, _, rfl, rfl, .inr ⟨by decide, by decide⟩, _, rfl, _, _, rfl, rfl, _, _, rfl, rfl, (show (0 : Int) < 2147483587 by decide), _, _, rfl, rfl, ⟨by decide, by decide⟩, _, rfl, _, _, rfl, rfl, m0, ?_⟩
    exact q _ _ (Int.emod_nonneg _ (by omega)) (Int.emod_lt_of_pos _ m0) ap_upd ⟨x, y, z + 1, hb2, hx, by omega, by unfold boxLine; omega⟩
def spSame (K : PySem.W.Frag) (n : Nat) : Sp := fun vs H Q _ => ∃ v u d, vs = [v, u] ∧ Dp K H v d ∧ Dp K H u d ∧ d.depth < n ∧ numD d ≤ 100000 ∧ ∀ G, Same H G → Q (.bl true) G
theorem scSame : FnScope ["_law_found", "_law_due", "_law_a", "_law_b"] ["_law_found", "_law_due"] (defScope sSame) := ⟨rfl, rfl, rfl, by decide +kernel, rfl, by decide +kernel, by decide +kernel⟩
theorem ok_same_step {n : Nat} (F : Fun K "_law_same" "_law_same" sSame f fd) (B : B0 mg) (ms : mg "str" = none) (G : FnOk P w K mg base CX0 n f fd ["_law_found", "_law_due"] (spSame K n)) (bG : Binds K fd ["_law_found", "_law_due"] []) (mG : mg "_law_same" = some (.ref f)) :
    FnOk P w K mg base CX0 (n + 1) f fd ["_law_found", "_law_due"] (spSame K (n + 1)) := by
  refine F.ok scSame (fun vs H Q E h => ?_) (fun cdv A outer s H vs Q E hr h => ?_)
  · obtain ⟨v, u, d, rfl, _⟩ := h; rfl
  obtain ⟨v, u, d, rfl, hv, hu, hdep, hnum, q⟩ := h
  refine ⟨_, pss_cons (ps_if (pt_val (pe_callB call_isiT (by rfl) B.isinstance PyProof.Rows.boot_isinstance (pa_cons (pv 1) (pa_cons (pe_tup (pa_cons (pe_list_ (by rfl) B.list) (pa_cons (pe_tuple_ (by rfl) B.tuple) pa_nil))) pa_nil))))
      (pss_cons (ps_if (PW.pt (pw_or (pt_cmpR op_ne (pe_callB call_isi (by rfl) B.isinstance PyProof.Rows.boot_isinstance (pa_cons (pv 0) (pa_cons (pe_list_ (by rfl) B.list) pa_nil))) (pe_callB call_isi (by rfl) B.isinstance PyProof.Rows.boot_isinstance (pa_cons (pv 1) (pa_cons (pe_list_ (by rfl) B.list) pa_nil))) (nomark _))
          (pw_or1 (pt_cmpR op_ne (pe_callB call_isi (by rfl) B.isinstance PyProof.Rows.boot_isinstance (pa_cons (pv 0) (pa_cons (pe_tuple_ (by rfl) B.tuple) pa_nil))) (pe_callB call_isi (by rfl) B.isinstance PyProof.Rows.boot_isinstance (pa_cons (pv 1) (pa_cons (pe_tuple_ (by rfl) B.tuple) pa_nil))) (nomark _))))) (pss_one (ps_ret pe_bl)) pss_nil)
      (pss_one (ps_ret (pe_and (pe_cmpR op_eq (pe_callB call_len_seq (by rfl) B.len PySem.boot_len (pa_cons (pv 0) pa_nil)) (pe_callB call_len_seq (by rfl) B.len PySem.boot_len (pa_cons (pv 1) pa_nil)) (nomark _))
        (pe_one (pe_callB (cr_all rfl) (by rfl) B.all PyProof.Rows.boot_all (pa_cons (pe_lc (own := [("_law_a", 2), ("_law_b", 3)]) (g := gTup K 2 (gCons (gName 2) (gCons (gName 3) gNil))) (tt := tYes) (te := tCall (spSame K n) [] E0 (tCons (tVar 2) (tCons (tVar 3) tNil))) (by rfl) scSame.nd (RZ.pi_zipA (by rfl) B.zip (pa_cons (pv 0) (pa_cons (pv 1) pa_nil)))
          (blkOk_by (N := ["_law_found", "_law_due", "_law_a", "_law_b"]) (sc := defScope sSame) (by decide +kernel)) (fun _ _ _ _ _ => pg_tup rfl (pgs_cons (pg_name (i := 2) scSame.nd rfl (Or.inl rfl)) (pgs_cons (pg_name (i := 3) scSame.nd rfl (Or.inl rfl)) pgs_nil)))
          (fun _ _ _ _ _ => pts_nil) (fun _ _ _ _ _ => pe_call G hr (by rfl) mG F.kp bG .nil pass0 (pa_cons (pv 2) (pa_cons (pv 3) pa_nil)))) pa_nil))))))) pss_nil)
    (pss_cons (ps_if (PW.pt (pw_or (pt_cmpR op_isN (pv 1) pe_non (nomark _)) (pw_or1 (pt_val (pe_callB call_isiT (by rfl) B.isinstance PyProof.Rows.boot_isinstance (pa_cons (pv 1) (pa_cons (pe_tup (pa_cons (pe_bool_ (by rfl) B.bool) (pa_cons (pe_bltn (v := .ty "str") (by rfl) ms PyProof.Rows.boot_str rfl) pa_nil))) pa_nil)))))))
      (pss_one (ps_ret (pe_and (pe_cmpR op_eq (pv 0) (pv 1) (nomark _)) (pe_and (pe_cmpR op_eq (pe_callB call_isi (by rfl) B.isinstance PyProof.Rows.boot_isinstance (pa_cons (pv 0) (pa_cons (pe_bool_ (by rfl) B.bool) pa_nil))) (pe_callB call_isi (by rfl) B.isinstance PyProof.Rows.boot_isinstance (pa_cons (pv 1) (pa_cons (pe_bool_ (by rfl) B.bool) pa_nil))) (nomark _))
        (pe_one (pe_cmpR op_eq (pe_cmpR op_isN (pv 0) pe_non (nomark _)) (pe_cmpR op_isN (pv 1) pe_non (nomark _)) (nomark _))))))) pss_nil)
    (pss_one (ps_ret (pe_and (pe_callB call_isi (by rfl) B.isinstance PyProof.Rows.boot_isinstance (pa_cons (pv 0) (pa_cons (pe_int_ (by rfl) B.int) pa_nil))) (pe_and (pe_not (pe_callB call_isi (by rfl) B.isinstance PyProof.Rows.boot_isinstance (pa_cons (pv 0) (pa_cons (pe_bool_ (by rfl) B.bool) pa_nil)))) (pe_one (pe_cmpR op_eq (pv 0) (pv 1) (nomark _)))))))), ?_⟩
  refine ⟨_, rfl, (by show 2 ≤ sizeLine; decide), fun p np => ?_⟩
  have s1 : Same H (upd H p (.tup [.ty "list", .ty "tuple"])) := same_new np
  have hv1 := same_dp s1 hv
  have hu1 := same_dp s1 hu
  refine ⟨u, p, _, _, [.type "list", .type "tuple"], _, rfl, upd_same, .cons (.ty _) (.cons (.ty _) .nil), dp_ty hu1, kit2 kit_list kit_tuple d, _, rfl, ?_⟩
  -- a list or a tuple
  have body : ∀ (a b : Addr) (xs ys : List V) (ds : List PyData), v = .ref a → u = .ref b → DpAll K H xs ds → DpAll K H ys ds → PyData.depthAll ds < n → numL ds ≤ 100000 → ((SqL K H a xs ∧ SqL K H b ys) ∨ (SqT K H a xs ∧ SqT K H b ys)) →
      tAndV (tOp rEq (tCB (fun xs H Q => ∃ p ys, xs = [.ref p] ∧ (SqL K H p ys ∨ SqT K H p ys) ∧ Q (.int ys.length) H) (tCons (tVar 0) tNil)) (tCB (fun xs H Q => ∃ p ys, xs = [.ref p] ∧ (SqL K H p ys ∨ SqT K H p ys) ∧ Q (.int ys.length) H) (tCons (tVar 1) tNil)))
        (tCB (rAll K) (tCons (tLc (RZ.iZipA K (tCons (tVar 0) (tCons (tVar 1) tNil))) (gTup K 2 (gCons (gName 2) (gCons (gName 3) gNil))) tYes (tCall (spSame K n) [] E0 (tCons (tVar 2) (tCons (tVar 3) tNil))) [2, 3]) tNil)) [some v, some u, none, none] (upd H p (.tup [.ty "list", .ty "tuple"])) Q := by
    intro a b xs ys ds ea eb hx hy hd hm hs
    subst ea eb
    have lx := dpAll_len hx
    have ly := dpAll_len hy
    have hsA : (SqL K (upd H p (.tup [.ty "list", .ty "tuple"])) a xs ∨ SqT K (upd H p (.tup [.ty "list", .ty "tuple"])) a xs) := hs.imp (fun z => s1.seq z.1) (fun z => same_tup s1 z.1)
    have hsB : (SqL K (upd H p (.tup [.ty "list", .ty "tuple"])) b ys ∨ SqT K (upd H p (.tup [.ty "list", .ty "tuple"])) b ys) := hs.imp (fun z => s1.seq z.2) (fun z => same_tup s1 z.2)
    refine ⟨_, rfl, a, xs, rfl, hsA, _, rfl, b, ys, rfl, hsB, rfl, _, rfl, ?_⟩
    rw [decide_eq_true (show V.int (xs.length : Nat) = V.int (ys.length : Nat) by rw [lx, ly])]
    refine iteT ⟨_, rfl, _, rfl, a, b, xs, ys, rfl, ?_⟩
    have turn : ∀ (D : Addr) (i : Nat) (x : V) (G1 G2 : Hp), (upd H p (.tup [.ty "list", .ty "tuple"])) D = none → i < ds.length → Same (upd H p (.tup [.ty "list", .ty "tuple"])) G1 ∧ G1 D = some (.lst ((List.replicate i true).map V.bl)) → YPair (fun i => xs[i]?) (fun i => ys[i]?) i G1 x G2 → ∃ T x1 x2, x = .ref T ∧ G2 T = some (.tup [x1, x2]) ∧ Dp K G2 x1 (ds.getD i .none) ∧ Dp K G2 x2 (ds.getD i .none) ∧ Same (upd H p (.tup [.ty "list", .ty "tuple"])) G2 ∧ G2 D = some (.lst ((List.replicate i true).map V.bl)) := by
      rintro D i x G1 G2 nD hi ⟨sm, hD⟩ ⟨T, x1, x2, rfl, nT, rfl, e1, e2⟩
      have sm2 := sm.trans (same_new (o := .tup [x1, x2]) nT)
      have smH := s1.trans sm2
      exact ⟨T, x1, x2, rfl, upd_same, same_dp smH (dpAll_get hx e1), same_dp smH (dpAll_get hy e2), sm2, by rw [upd_ne (ne_of_none hD nT)]; exact hD⟩
    have fin : ∀ (D : Addr) (G1 : Hp), Same (upd H p (.tup [.ty "list", .ty "tuple"])) G1 ∧ G1 D = some (.lst ((List.replicate ds.length true).map V.bl)) → rAll K [.ref D] G1 Q := by
      rintro D G1 ⟨sm, hD⟩
      refine ⟨D, _, rfl, SqL.of hD, ?_⟩
      rw [all_true]; exact q _ (s1.trans sm)
    have step : ∀ (D : Addr) (i : Nat) (x : V) (G1 G2 : Hp), (upd H p (.tup [.ty "list", .ty "tuple"])) D = none → i < ds.length → Same (upd H p (.tup [.ty "list", .ty "tuple"])) G1 ∧ G1 D = some (.lst ((List.replicate i true).map V.bl)) → YPair (fun i => xs[i]?) (fun i => ys[i]?) i G1 x G2 →
        gTup K 2 (gCons (gName 2) (gCons (gName 3) gNil)) x (wipe [some (.ref a), some (.ref b), none, none] [2, 3]) G2 fun σ2 H2 => wipe σ2 [2, 3] = wipe [some (.ref a), some (.ref b), none, none] [2, 3] ∧ tYes σ2 H2 fun b2 H3 => if b2 = true then tCall (spSame K n) [] E0 (tCons (tVar 2) (tCons (tVar 3) tNil)) σ2 H3 fun y H4 => ∃ acc, H4 D = some (.lst acc) ∧ acc.length < sizeLine ∧
          (Same (upd H p (.tup [.ty "list", .ty "tuple"])) (upd H4 D (.lst (acc ++ [y]))) ∧ (upd H4 D (.lst (acc ++ [y]))) D = some (.lst ((List.replicate (i + 1) true).map V.bl))) else (Same (upd H p (.tup [.ty "list", .ty "tuple"])) H3 ∧ H3 D = some (.lst ((List.replicate (i + 1) true).map V.bl))) := by
      intro D i x G1 G2 nD hi pp y
      obtain ⟨T, x1, x2, rfl, hT, d1, d2, sm2, hD⟩ := turn D i x G1 G2 nD hi pp y
      refine ⟨T, _, rfl, SqT.of hT, rfl, _, _, rfl, _, _, rfl, rfl, rfl, _, rfl, _, rfl, x1, x2, _, rfl, d1, d2, Nat.lt_of_le_of_lt (depth_mem hi) hd, Nat.le_trans (num_mem hi) hm, fun G3 sm3 => ⟨_, sm3 D _ hD, ?_, ?_, ?_⟩⟩
      · rw [List.length_map, List.length_replicate, sizeLine_eq]
        have := num_len ds
        omega
      · exact same_grow nD (sm2.trans sm3)
      · rw [upd_same, List.replicate_succ', List.map_append]; rfl
    rcases hs with ⟨z1, z2⟩ | ⟨z1, z2⟩
    · refine .inl ⟨s1.seq z1, s1.seq z2, fun D nD => lc_it (walk_zip (n := ds.length) (by omega)) (fun i G1 => Same (upd H p (.tup [.ty "list", .ty "tuple"])) G1 ∧ G1 D = some (.lst ((List.replicate i true).map V.bl))) ⟨same_new nD, upd_same⟩ (fun i G1 _ p => ⟨p.1.seq (s1.seq z1), p.1.seq (s1.seq z2)⟩) (fun i x G1 G2 hi p y => step D i x G1 G2 nD hi p y) (fun G1 p => fin D G1 p)⟩
    · exact .inr ⟨same_tup s1 z1, same_tup s1 z2, fun D nD => lc_it (walk_zipT (n := ds.length) (by omega)) (fun i G1 => Same (upd H p (.tup [.ty "list", .ty "tuple"])) G1 ∧ G1 D = some (.lst ((List.replicate i true).map V.bl))) ⟨same_new nD, upd_same⟩ (fun i G1 _ p => ⟨same_tup p.1 (same_tup s1 z1), same_tup p.1 (same_tup s1 z2)⟩) (fun i x G1 G2 hi p y => step D i x G1 G2 nD hi p y) (fun G1 p => fin D G1 p)⟩
  have qq : ∀ G, Same (upd H p (.tup [.ty "list", .ty "tuple"])) G → Q (.bl true) G := fun G sm => q G (s1.trans sm)
  cases hv with
  | @lst a xs ds hs ha =>
    cases hu with
    | @lst b ys _ hs2 ha2 =>
      refine iteT ?_
      refine ⟨_, rfl, _, _, _, _, _, rfl, .ty _, dp_ty hv1, kit_ty (kit_list _), _, rfl, _, _, _, _, _, rfl, .ty _, dp_ty hu1, kit_ty (kit_list _), rfl, _, rfl, iteF ?_⟩
      refine ⟨_, rfl, _, _, _, _, _, rfl, .ty _, dp_ty hv1, kit_ty (kit_tuple _), _, rfl, _, _, _, _, _, rfl, .ty _, dp_ty hu1, kit_ty (kit_tuple _), rfl, _, rfl, iteF ?_⟩
      exact body a b xs ys ds rfl rfl ha ha2 (by simp only [PyData.depth] at hdep; omega) (by simp only [numD] at hnum; omega) (.inl ⟨hs, hs2⟩)
  | @tup a xs ds hs ha =>
    cases hu with
    | @tup b ys _ hs2 ha2 =>
      refine iteT ?_
      refine ⟨_, rfl, _, _, _, _, _, rfl, .ty _, dp_ty hv1, kit_ty (kit_list _), _, rfl, _, _, _, _, _, rfl, .ty _, dp_ty hu1, kit_ty (kit_list _), rfl, _, rfl, iteF ?_⟩
      refine ⟨_, rfl, _, _, _, _, _, rfl, .ty _, dp_ty hv1, kit_ty (kit_tuple _), _, rfl, _, _, _, _, _, rfl, .ty _, dp_ty hu1, kit_ty (kit_tuple _), rfl, _, rfl, iteF ?_⟩
      exact body a b xs ys ds rfl rfl ha ha2 (by simp only [PyData.depth] at hdep; omega) (by simp only [numD] at hnum; omega) (.inr ⟨hs, hs2⟩)
  | non =>
    cases hu
    refine iteF ⟨_, rfl, rfl, _, rfl, iteT (iteT ?_)⟩
    refine ⟨_, rfl, _, rfl, rfl, _, rfl, iteT ?_⟩
    refine ⟨_, rfl, _, _, _, _, _, rfl, .ty _, dp_ty hv1, kit_ty (kit_bool _), _, rfl, _, _, _, _, _, rfl, .ty _, dp_ty hu1, kit_ty (kit_bool _), rfl, _, rfl, iteT ?_⟩
    exact ⟨_, rfl, rfl, _, rfl, rfl, rfl, qq _ (Same.refl _)⟩
  | bl b =>
    cases hu
    refine iteF ⟨_, rfl, rfl, _, rfl, iteF ?_⟩
    refine ⟨_, rfl, (by show 2 ≤ sizeLine; decide), fun p2 np2 => ?_⟩
    refine ⟨_, p2, _, _, [.type "bool", .type "str"], _, rfl, upd_same, .cons (.ty _) (.cons (.ty _) .nil), dp_ty (.bl b), kit2 kit_bool kit_str (.bool b), _, rfl, iteT ?_⟩
    refine ⟨_, rfl, _, rfl, rfl, _, rfl, ?_⟩
    rw [decide_eq_true rfl]
    refine iteT ⟨_, rfl, _, _, _, _, _, rfl, .ty _, dp_ty (.bl b), kit_ty (kit_bool _), _, rfl, _, _, _, _, _, rfl, .ty _, dp_ty (.bl b), kit_ty (kit_bool _), rfl, _, rfl, iteT ?_⟩
    exact ⟨_, rfl, rfl, _, rfl, rfl, rfl, qq _ (same_new np2)⟩
  | str x =>
    cases hu
    refine iteF ⟨_, rfl, rfl, _, rfl, iteF ?_⟩
    refine ⟨_, rfl, (by show 2 ≤ sizeLine; decide), fun p2 np2 => ?_⟩
    refine ⟨_, p2, _, _, [.type "bool", .type "str"], _, rfl, upd_same, .cons (.ty _) (.cons (.ty _) .nil), dp_ty (.str x), kit2 kit_bool kit_str (.str x), _, rfl, iteT ?_⟩
    refine ⟨_, rfl, _, rfl, rfl, _, rfl, ?_⟩
    rw [decide_eq_true rfl]
    refine iteT ⟨_, rfl, _, _, _, _, _, rfl, .ty _, dp_ty (.str x), kit_ty (kit_bool _), _, rfl, _, _, _, _, _, rfl, .ty _, dp_ty (.str x), kit_ty (kit_bool _), rfl, _, rfl, iteT ?_⟩
    exact ⟨_, rfl, rfl, _, rfl, rfl, rfl, qq _ (same_new np2)⟩
  | int i =>
    cases hu
    refine iteF ⟨_, rfl, rfl, _, rfl, iteF ?_⟩
    refine ⟨_, rfl, (by show 2 ≤ sizeLine; decide), fun p2 np2 => ?_⟩
    refine ⟨_, p2, _, _, [.type "bool", .type "str"], _, rfl, upd_same, .cons (.ty _) (.cons (.ty _) .nil), dp_ty (.int i), kit2 kit_bool kit_str (.int i), _, rfl, iteF ?_⟩
    refine ⟨_, rfl, _, _, _, _, _, rfl, .ty _, dp_ty (.int i), kit_ty (kit_int _), _, rfl, iteT ?_⟩
    refine ⟨_, rfl, _, _, _, _, _, rfl, .ty _, dp_ty (.int i), kit_ty (kit_bool _), _, rfl, _, rfl, iteT ?_⟩
    refine ⟨_, rfl, _, rfl, rfl, ?_⟩
    rw [decide_eq_true rfl]
    exact qq _ (same_new np2)
theorem ok_same (F : Fun K "_law_same" "_law_same" sSame f fd) (B : B0 mg) (ms : mg "str" = none) (bG : Binds K fd ["_law_found", "_law_due"] []) (mG : mg "_law_same" = some (.ref f)) : ∀ n, FnOk P w K mg base CX0 n f fd ["_law_found", "_law_due"] (spSame K n)
  | 0 => by
    have no : ∀ vs H Q E, ¬ spSame K 0 vs H Q E := fun vs H Q E ⟨_, _, _, _, _, _, h, _⟩ => absurd h (Nat.not_lt_zero _)
    exact ⟨fun vs H Q E h => absurd h (no vs H Q E), fun _ _ _ H _ _ vs Q E _ _ _ _ h => absurd h (no vs H Q E)⟩
  | n + 1 => ok_same_step F B ms (ok_same F B ms bG mG n) bG mG
end
end K15

set_option Elab.async false
set_option linter.all false
set_option maxRecDepth 100000
set_option maxHeartbeats 4000000
namespace K15
open PySem PySem.Spec PyProof.Rows L2 Hs

/-! ### data without lists -/
mutual
def lf : PyData → Bool
  | .tuple xs => lfL xs
  | .list _ => false
  | .none => true | .bool _ => true | .int _ => true | .str _ => true | .dict _ => false
def lfL : List PyData → Bool
  | [] => true
  | x :: xs => lf x && lfL xs
end
/-- every tuple stays -/
def StT (H G : Hp) : Prop := (∀ b xs, H b = some (.tup xs) → G b = some (.tup xs)) ∧ ∀ b o xs, H b = some (.frz o (.tup xs)) → G b = some (.frz o (.tup xs))
theorem st_tup {K : PySem.W.Frag} {H G : Hp} {a : Addr} {xs : List V} (e : StT H G) (h : SqT K H a xs) : SqT K G a xs := by
  rcases h with (h | ⟨o, h⟩) | h
  · exact .inl (.inl (e.1 _ _ h))
  · exact .inl (.inr ⟨o, e.2 _ _ _ h⟩)
  · exact .inr h
mutual
theorem st_dp {K : PySem.W.Frag} {H G : Hp} (e : StT H G) : ∀ {d : PyData} {v : V}, lf d = true → Dp K H v d → Dp K G v d
  | .none, _, _, h => by cases h; exact .non
  | .bool b, _, _, h => by cases h; exact .bl b
  | .int i, _, _, h => by cases h; exact .int i
  | .str x, _, _, h => by cases h; exact .str x
  | .list ds, _, l, h => by simp only [lf] at l; cases l
  | .tuple ds, _, l, h => by
    simp only [lf] at l
    cases h with | tup q r => exact .tup (st_tup e q) (st_dps e l r)
  | .dict _, _, _, h => by cases h
theorem st_dps {K : PySem.W.Frag} {H G : Hp} (e : StT H G) : ∀ {ds : List PyData} {vs : List V}, lfL ds = true → DpAll K H vs ds → DpAll K G vs ds
  | [], _, _, h => by cases h; exact .nil
  | _ :: _, _, l, h => by
    simp only [lfL, Bool.and_eq_true] at l
    cases h with | cons q r => exact .cons (st_dp e l.1 q) (st_dps e l.2 r)
end
theorem st_same {H G : Hp} (e : Same H G) : StT H G := ⟨fun b xs h => e _ _ h, fun b o xs h => e _ _ h⟩
theorem StT.trans {H G J : Hp} (a : StT H G) (b : StT G J) : StT H J := ⟨fun c xs h => b.1 _ _ (a.1 _ _ h), fun c o xs h => b.2 _ _ _ (a.2 _ _ _ h)⟩
/-- an update where no tuple stands -/
theorem st_upd {H : Hp} {a : Addr} {o : HO} (h1 : ∀ xs, H a ≠ some (.tup xs)) (h2 : ∀ u xs, H a ≠ some (.frz u (.tup xs))) : StT H (upd H a o) :=
  ⟨fun b xs h => by rw [upd_ne (fun z => by rw [z] at h; exact h1 _ h)]; exact h, fun b u xs h => by rw [upd_ne (fun z => by rw [z] at h; exact h2 _ _ h)]; exact h⟩
theorem st_lst {H : Hp} {a : Addr} {ys : List V} {o : HO} (h : H a = some (.lst ys)) : StT H (upd H a o) :=
  st_upd (fun xs z => by rw [h] at z; cases z) (fun u xs z => by rw [h] at z; cases z)
theorem st_hid {H : Hp} {a C : Addr} {d : Option Addr} (h : H a = some (exo a C d)) : StT H (hid H a) :=
  ⟨fun b xs z => by rw [hid_ne (at_ne h z exo_tup)]; exact z, fun b u xs z => by rw [hid_ne (at_ne h z exo_frz)]; exact z⟩
theorem lf_mem {ds : List PyData} {i : Nat} (h : lfL ds = true) : lf (ds.getD i .none) = true := by
  induction ds generalizing i with
  | nil => rfl
  | cons d ds ih =>
    simp only [lfL, Bool.and_eq_true] at h
    cases i with
    | zero => exact h.1
    | succ i => exact ih h.2
theorem lf_take {ds : List PyData} {i : Nat} (h : lfL ds = true) : lfL (ds.take i) = true := by
  induction ds generalizing i with
  | nil => rw [List.take_nil]; rfl
  | cons d ds ih =>
    simp only [lfL, Bool.and_eq_true] at h
    cases i with
    | zero => rfl
    | succ i => rw [List.take_succ_cons]; simp only [lfL, Bool.and_eq_true]; exact ⟨h.1, ih h.2⟩
theorem dpAll_take {K : PySem.W.Frag} {H : Hp} {ds : List PyData} {xs : List V} {i : Nat} {x : V} (hi : i < ds.length) (h : DpAll K H xs (ds.take i)) (hx : Dp K H x (ds.getD i .none)) : DpAll K H (xs ++ [x]) (ds.take (i + 1)) := by
  have e : ds.take (i + 1) = ds.take i ++ [ds.getD i .none] := by
    rw [List.take_succ, List.getD_eq_getElem?_getD, List.getElem?_eq_getElem hi]; rfl
  rw [e]; exact dpAll_snoc h hx
section
variable {P : Program} {w : World} {K : PySem.W.Frag} {mg : Str → Option Value} {base : Heap} {f : Addr} {fd : FuncData}
/-! ### take of a great number -/
def spTakeB (K : PySem.W.Frag) : Sp := fun vs H Q _ => ∃ b m n, vs = [.ref b, .int m] ∧ 10000000 < m ∧ m ≤ 1000000000 ∧ BoxAt H b (n + 2) ∧ ∀ r G, 0 ≤ r → r < m → Ap b H G → BoxAt G b n → Q (.int r) G
theorem ok_takeB (N : FnOk P w K mg base CX0 1 f fd ["_law_box_here", "_law_below"] (spTake K)) (F : Fun K "_law_take" "_law_take" sTake f fd) (bF : Binds K fd ["_law_box_here", "_law_below"] []) (mF : mg "_law_take" = some (.ref f)) : FnOk P w K mg base CX0 2 f fd ["_law_box_here", "_law_below"] (spTakeB K) := by
  refine F.ok scTake (fun vs H Q E h => ?_) (fun cdv A outer s H vs Q E hr h => ?_)
  · obtain ⟨b, m, n, rfl, _⟩ := h; rfl
  obtain ⟨b, m, n, rfl, m0, m1, ⟨x, y, z, hb, hx, hz, hn⟩, q⟩ := h
  refine ⟨_, pss_cons (ps_if (pt_cmpR op_gt (pe_ix ix_list (pv 0) pe_int (fun _ _ => rfl)) pe_int (nomark _))
      (pss_cons (ps_set (i := 2) scTake.nd rfl (.inl rfl) (pe_op op_mod (pe_ix ix_list (pv 0) pe_int (fun _ _ => rfl)) (pv 1)))
      (pss_cons (ps_asg (pe_op op_fdiv (pe_ix ix_list (pv 0) pe_int (fun _ _ => rfl)) (pv 1)) (pg_sub (pv 0) pe_int set_list))
      (pss_one (ps_ret (pv 2))))) pss_nil)
    (pss_cons (ps_if (pt_cmpR op_gt (pv 1) (pe_op op_pow pe_int pe_int) (nomark _))
      (pss_one (ps_ret (pe_op op_mod (pe_op op_add (pe_call N hr (by rfl) mF F.kp bF .nil pass0 (pa_cons (pv 0) (pa_cons (pe_op op_pow pe_int pe_int) pa_nil))) (pe_op op_mul (pe_op op_pow pe_int pe_int) (pe_call N hr (by rfl) mF F.kp bF .nil pass0 (pa_cons (pv 0) (pa_cons (pe_op op_add (pe_op op_fdiv (pv 1) (pe_op op_pow pe_int pe_int)) pe_int) pa_nil))))) (pv 1)))) pss_nil)
    (pss_cons (ps_asg (pe_op op_add (pe_ix ix_list (pv 0) pe_int (fun _ _ => rfl)) pe_int) (pg_sub (pv 0) pe_int set_list))
    (pss_cons (ps_set (i := 3) scTake.nd rfl (.inl rfl) (pe_op op_mod (pe_op op_mul (pe_op op_add (pe_ix ix_list (pv 0) pe_int (fun _ _ => rfl)) (pe_op op_mul pe_int (pe_ix ix_list (pv 0) pe_int (fun _ _ => rfl)))) (pe_op op_add pe_int (pe_ix ix_list (pv 0) pe_int (fun _ _ => rfl)))) pe_int))
    (pss_cons (ps_set (i := 4) scTake.nd rfl (.inl rfl) (pe_op op_mod (pe_op op_mul (pe_op op_add (pe_op op_add (pv 3) (pe_ix ix_list (pv 0) pe_int (fun _ _ => rfl))) (pe_op op_fdiv (pe_ix ix_list (pv 0) pe_int (fun _ _ => rfl)) pe_int)) (pe_op op_add (pe_op op_mod (pv 3) pe_int) pe_int)) pe_int))
    (pss_one (ps_ret (pe_op op_mod (pe_op op_fdiv (pe_op op_mod (pe_op op_add (pe_op op_mul (pv 4) pe_int) (pv 3)) pe_int) pe_int) (pv 1)))))))), ?_⟩
  have m0' : 0 < m := by omega
  have hL : SqL K H b [.int x, .int y, .int z] := SqL.of hb
  have e7 : (10 : Int) ^ (7 : Int).toNat = 10000000 := by decide
  refine ⟨_, rfl, b, _, 0, _, rfl, rfl, hL, rfl, _, _, rfl, rfl, _, rfl, ite2 (fun c => ?_) (fun c => ?_)⟩
  · refine ⟨_, rfl, b, _, 0, _, rfl, rfl, hL, rfl, _, rfl, _, _, rfl, rfl, m0', ?_⟩
    refine ⟨_, rfl, b, _, 0, _, rfl, rfl, hL, rfl, _, rfl, _, _, rfl, rfl, ⟨m0', by omega⟩, _, rfl, b, _, 0, 0, rfl, rfl, hb, rfl, ?_⟩
    refine ⟨_, rfl, q _ _ (Int.emod_nonneg _ (by omega)) (Int.emod_lt_of_pos _ m0') ap_upd ⟨x / m, y, z, upd_same, Int.ediv_nonneg hx (by omega), hz, by omega⟩⟩
  · refine ⟨_, rfl, 10, 7, rfl, rfl, ⟨by decide, by decide, by decide⟩, _, _, rfl, rfl, _, rfl, ?_⟩
    have great : (10 : Int) ^ (7 : Int).toNat < m := by omega
    rw [decide_eq_true great]
    refine iteT ?_
    refine ⟨_, rfl, 10, 7, rfl, rfl, ⟨by decide, by decide, by decide⟩, b, _, n + 1, rfl, by decide, by decide, ⟨x, y, z, hb, hx, hz, hn⟩, fun r1 G1 a1 a2 ap1 hB1 => ?_⟩
    refine ⟨10, 7, rfl, rfl, ⟨by decide, by decide, by decide⟩, _, rfl, _, rfl, 10, 7, rfl, rfl, ⟨by decide, by decide, by decide⟩, _, _, rfl, rfl, ⟨by decide, by decide⟩, _, _, rfl, rfl, b, _, n, rfl, ?_, ?_, hB1, fun r2 G2 b1 b2 ap2 hB2 => ?_⟩
    · rw [e7]; have := Int.ediv_nonneg (a := m) (b := 10000000) (by omega) (by decide); omega
    · rw [e7]; omega
    refine ⟨_, _, rfl, rfl, .inl ⟨by decide, by decide⟩, _, _, rfl, rfl, _, rfl, _, _, rfl, rfl, m0', ?_⟩
    exact q _ _ (Int.emod_nonneg _ (by omega)) (Int.emod_lt_of_pos _ m0') (ap1.trans ap2) hB2
/-! ### copied -/
def spCopied (K : PySem.W.Frag) (n : Nat) : Sp := fun vs H Q _ => ∃ v d, vs = [v] ∧ Dp K H v d ∧ lf d = true ∧ d.depth < n ∧ numD d ≤ 1000 ∧ ∀ u G, Same H G → Dp K G u d → Q u G
theorem scCopied : FnScope ["value", "item"] ["value"] (defScope sCopied) := ⟨rfl, rfl, rfl, by decide +kernel, rfl, by decide +kernel, by decide +kernel⟩
theorem ok_copied_step {n : Nat} (F : Fun K "copied" "copied" sCopied f fd) (B : B0 mg) (G : FnOk P w K mg base CX0 n f fd ["value"] (spCopied K n)) (bG : Binds K fd ["value"] []) (mG : mg "copied" = some (.ref f)) : FnOk P w K mg base CX0 (n + 1) f fd ["value"] (spCopied K (n + 1)) := by
  refine F.ok scCopied (fun vs H Q E h => ?_) (fun cdv A outer s H vs Q E hr h => ?_)
  · obtain ⟨v, d, rfl, _⟩ := h; rfl
  obtain ⟨v, d, rfl, hv, hlf, hdep, hnum, q⟩ := h
  refine ⟨_, pss_cons (ps_if (pt_val (pe_callB call_isi (by rfl) B.isinstance PyProof.Rows.boot_isinstance (pa_cons (pv 0) (pa_cons (pe_list_ (by rfl) B.list) pa_nil))))
      (pss_one (ps_ret (pe_lc (own := [("item", 1)]) (g := gName 1) (tt := tYes) (te := tCall (spCopied K n) [] E0 (tCons (tVar 1) tNil)) (by rfl) scCopied.nd (pi_list (pv 0)) (blkOk_by (N := ["value", "item"]) (sc := defScope sCopied) (by decide +kernel)) (fun _ _ _ _ _ => pg_name (i := 1) scCopied.nd rfl (Or.inl rfl)) (fun _ _ _ _ _ => pts_nil) (fun _ _ _ _ _ => pe_call G hr (by rfl) mG F.kp bG .nil pass0 (pa_cons (pv 1) pa_nil))))) pss_nil)
    (pss_cons (ps_if (pt_val (pe_callB call_isi (by rfl) B.isinstance PyProof.Rows.boot_isinstance (pa_cons (pv 0) (pa_cons (pe_tuple_ (by rfl) B.tuple) pa_nil))))
      (pss_one (ps_ret (pe_callTy call_tuple_of (by rfl) B.tuple PyProof.Rows.boot_tuple (pa_cons (pe_lc (own := [("item", 1)]) (g := gName 1) (tt := tYes) (te := tCall (spCopied K n) [] E0 (tCons (tVar 1) tNil)) (by rfl) scCopied.nd (pi_tup (pv 0)) (blkOk_by (N := ["value", "item"]) (sc := defScope sCopied) (by decide +kernel)) (fun _ _ _ _ _ => pg_name (i := 1) scCopied.nd rfl (Or.inl rfl)) (fun _ _ _ _ _ => pts_nil) (fun _ _ _ _ _ => pe_call G hr (by rfl) mG F.kp bG .nil pass0 (pa_cons (pv 1) pa_nil))) pa_nil)))) pss_nil)
    (pss_one (ps_ret (pv 0)))), ?_⟩
  have nl : isL d = false := by cases d <;> first | rfl | (simp only [lf] at hlf; cases hlf)
  refine ⟨v, rfl, v, _, _, _, _, rfl, .ty _, dp_ty hv, kit_ty (kit_list d), _, rfl, ?_⟩
  rw [nl]
  refine iteF ⟨v, rfl, v, _, _, _, _, rfl, .ty _, dp_ty hv, kit_ty (kit_tuple d), _, rfl, ?_⟩
  cases hv with
  | non => exact iteF ⟨_, rfl, q _ _ (Same.refl _) .non⟩
  | bl b => exact iteF ⟨_, rfl, q _ _ (Same.refl _) (.bl b)⟩
  | int i => exact iteF ⟨_, rfl, q _ _ (Same.refl _) (.int i)⟩
  | str x => exact iteF ⟨_, rfl, q _ _ (Same.refl _) (.str x)⟩
  | lst hs ha => cases nl
  | @tup a xs ds hs ha =>
    have lx := dpAll_len ha
    simp only [lf] at hlf
    simp only [PyData.depth] at hdep
    simp only [numD] at hnum
    refine iteT ⟨_, rfl, a, rfl, ⟨xs, hs⟩, fun D nD => ?_⟩
    have w0 := walk_tup (K := K) (a := a) (xs := xs)
    rw [lx] at w0
    refine lc_it w0 (fun i G1 => Same H G1 ∧ ∃ acc, G1 D = some (.lst acc) ∧ DpAll K G1 acc (ds.take i)) ⟨same_new nD, [], upd_same, .nil⟩ (fun i G1 _ p => same_tup p.1 hs) (fun i x G1 G2 hi p y => ?_) (fun G1 p => ?_)
    · obtain ⟨sm, acc, hD, hA⟩ := p
      obtain ⟨rfl, hx⟩ := y
      refine ⟨rfl, _, rfl, x, ds.getD i .none, rfl, same_dp sm (dpAll_get ha hx), lf_mem hlf, Nat.lt_of_le_of_lt (depth_mem hi) (by omega), Nat.le_trans (num_mem hi) (by omega), fun u G3 sm3 hu => ⟨acc, sm3 _ _ hD, ?_, same_grow nD (sm.trans sm3), _, upd_same, ?_⟩⟩
      · rw [dpAll_len hA, List.length_take]
        have := num_len ds
        exact small1000 (by omega)
      · have lt : lfL (ds.take (i + 1)) = true := lf_take hlf
        exact st_dps (st_lst (sm3 _ _ hD)) lt (dpAll_take hi (same_dps sm3 hA) hu)
    · obtain ⟨sm, acc, hD, hA⟩ := p
      rw [List.take_length] at hA
      refine ⟨D, acc, rfl, .inl ⟨SqL.of hD, fun l nl => q _ _ (sm.trans (same_new nl)) (.tup (SqT.of upd_same) (same_dps (same_new nl) hA))⟩⟩
theorem ok_copied (F : Fun K "copied" "copied" sCopied f fd) (B : B0 mg) (bG : Binds K fd ["value"] []) (mG : mg "copied" = some (.ref f)) : ∀ n, FnOk P w K mg base CX0 n f fd ["value"] (spCopied K n)
  | 0 => by
    have no : ∀ vs H Q E, ¬ spCopied K 0 vs H Q E := fun vs H Q E ⟨_, _, _, _, _, h, _⟩ => absurd h (Nat.not_lt_zero _)
    exact ⟨fun vs H Q E h => absurd h (no vs H Q E), fun _ _ _ H _ _ vs Q E _ _ _ _ h => absurd h (no vs H Q E)⟩
  | n + 1 => ok_copied_step F B (ok_copied F B bG mG n) bG mG
/-! ### the __init__s -/
def spIni (K : PySem.W.Frag) (C : Addr) (f : Str) : Sp := fun vs H Q _ => ∃ a v d, vs = [.ref a, v] ∧ H a = some (exo a C none) ∧ Dp K (hid H a) v d ∧ lf d = true ∧ d.depth < 4 ∧ numD d ≤ 1000 ∧ ∀ G dx u, Ap a H G → G a = some (exo a C (some dx)) → G dx = some (exd dx [(f, u)]) → Dp K (hid G a) u d → Q .non G
theorem ini_end {H : Hp} {a C dx : Addr} {n : Str} {u : V} {d : PyData} (hd : Dp K (hid H a) u d) (nd : H dx = none) (ne : dx ≠ a) : Ap a H (upd (upd H dx (exd dx [(n, u)])) a (exo a C (some dx))) ∧ (upd (upd H dx (exd dx [(n, u)])) a (exo a C (some dx))) dx = some (exd dx [(n, u)]) ∧ Dp K (hid (upd (upd H dx (exd dx [(n, u)])) a (exo a C (some dx))) a) u d := by
  have sm : Ap a H (upd (upd H dx (exd dx [(n, u)])) a (exo a C (some dx))) := by unfold Ap; rw [hid_upd]; exact hid_mono (same_new nd)
  exact ⟨sm, by rw [upd_ne ne, upd_same], same_dp sm hd⟩
theorem scBadText : FnScope ["self", "text"] ["self", "text"] (defScope sBadText) := ⟨rfl, rfl, rfl, by decide +kernel, rfl, by decide +kernel, by decide +kernel⟩
theorem ok_BadText {k : Nat} {C : Addr} (F : Fun K "__init__" "BadText.__init__" sBadText f fd) (T : EX K C) (hno : PySem.W.findIn K (.ref C) "text" = some none) : FnOk P w K mg base CX0 (k + 1) f fd ["self", "text"] (spIni K C "text") := by
  refine F.ok scBadText (fun vs H Q E h => ?_) (fun cdv A outer s H vs Q E hr h => ?_)
  · obtain ⟨a, v, d, rfl, _⟩ := h; rfl
  obtain ⟨a, v, d, rfl, ha, hv, _, _, _, q⟩ := h
  refine ⟨_, pss_one (ps_osK (pv 0) (pv 1)), v, rfl, _, rfl, a, C, rfl, T, hno, ha, fun dx nd ne => ?_⟩
  obtain ⟨e1, e2, e3⟩ := ini_end (n := "text") (C := C) hv nd ne
  exact q _ dx v e1 upd_same e2 e3
theorem scBadLine : FnScope ["self", "number"] ["self", "number"] (defScope sBadLine) := ⟨rfl, rfl, rfl, by decide +kernel, rfl, by decide +kernel, by decide +kernel⟩
theorem ok_BadLine {k : Nat} {C : Addr} (F : Fun K "__init__" "BadLine.__init__" sBadLine f fd) (T : EX K C) (hno : PySem.W.findIn K (.ref C) "number" = some none) : FnOk P w K mg base CX0 (k + 1) f fd ["self", "number"] (spIni K C "number") := by
  refine F.ok scBadLine (fun vs H Q E h => ?_) (fun cdv A outer s H vs Q E hr h => ?_)
  · obtain ⟨a, v, d, rfl, _⟩ := h; rfl
  obtain ⟨a, v, d, rfl, ha, hv, _, _, _, q⟩ := h
  refine ⟨_, pss_one (ps_osK (pv 0) (pv 1)), v, rfl, _, rfl, a, C, rfl, T, hno, ha, fun dx nd ne => ?_⟩
  obtain ⟨e1, e2, e3⟩ := ini_end (n := "number") (C := C) hv nd ne
  exact q _ dx v e1 upd_same e2 e3
theorem scNoPerson : FnScope ["self", "person"] ["self", "person"] (defScope sNoPerson) := ⟨rfl, rfl, rfl, by decide +kernel, rfl, by decide +kernel, by decide +kernel⟩
theorem ok_NoPerson {k : Nat} {C : Addr} (F : Fun K "__init__" "NoPerson.__init__" sNoPerson f fd) (T : EX K C) (hno : PySem.W.findIn K (.ref C) "person" = some none) : FnOk P w K mg base CX0 (k + 1) f fd ["self", "person"] (spIni K C "person") := by
  refine F.ok scNoPerson (fun vs H Q E h => ?_) (fun cdv A outer s H vs Q E hr h => ?_)
  · obtain ⟨a, v, d, rfl, _⟩ := h; rfl
  obtain ⟨a, v, d, rfl, ha, hv, _, _, _, q⟩ := h
  refine ⟨_, pss_one (ps_osK (pv 0) (pv 1)), v, rfl, _, rfl, a, C, rfl, T, hno, ha, fun dx nd ne => ?_⟩
  obtain ⟨e1, e2, e3⟩ := ini_end (n := "person") (C := C) hv nd ne
  exact q _ dx v e1 upd_same e2 e3
theorem scNoArm : FnScope ["self", "person"] ["self", "person"] (defScope sNoArm) := ⟨rfl, rfl, rfl, by decide +kernel, rfl, by decide +kernel, by decide +kernel⟩
theorem ok_NoArm {k : Nat} {C : Addr} (F : Fun K "__init__" "NoArm.__init__" sNoArm f fd) (T : EX K C) (hno : PySem.W.findIn K (.ref C) "person" = some none) : FnOk P w K mg base CX0 (k + 1) f fd ["self", "person"] (spIni K C "person") := by
  refine F.ok scNoArm (fun vs H Q E h => ?_) (fun cdv A outer s H vs Q E hr h => ?_)
  · obtain ⟨a, v, d, rfl, _⟩ := h; rfl
  obtain ⟨a, v, d, rfl, ha, hv, _, _, _, q⟩ := h
  refine ⟨_, pss_one (ps_osK (pv 0) (pv 1)), v, rfl, _, rfl, a, C, rfl, T, hno, ha, fun dx nd ne => ?_⟩
  obtain ⟨e1, e2, e3⟩ := ini_end (n := "person") (C := C) hv nd ne
  exact q _ dx v e1 upd_same e2 e3
theorem scNoPlace : FnScope ["self", "place"] ["self", "place"] (defScope sNoPlace) := ⟨rfl, rfl, rfl, by decide +kernel, rfl, by decide +kernel, by decide +kernel⟩
theorem ok_NoPlace {k : Nat} {C : Addr} (F : Fun K "__init__" "NoPlace.__init__" sNoPlace f fd) (T : EX K C) (hno : PySem.W.findIn K (.ref C) "place" = some none) : FnOk P w K mg base CX0 (k + 1) f fd ["self", "place"] (spIni K C "place") := by
  refine F.ok scNoPlace (fun vs H Q E h => ?_) (fun cdv A outer s H vs Q E hr h => ?_)
  · obtain ⟨a, v, d, rfl, _⟩ := h; rfl
  obtain ⟨a, v, d, rfl, ha, hv, _, _, _, q⟩ := h
  refine ⟨_, pss_one (ps_osK (pv 0) (pv 1)), v, rfl, _, rfl, a, C, rfl, T, hno, ha, fun dx nd ne => ?_⟩
  obtain ⟨e1, e2, e3⟩ := ini_end (n := "place") (C := C) hv nd ne
  exact q _ dx v e1 upd_same e2 e3
theorem scNoNumber : FnScope ["self", "number"] ["self", "number"] (defScope sNoNumber) := ⟨rfl, rfl, rfl, by decide +kernel, rfl, by decide +kernel, by decide +kernel⟩
theorem ok_NoNumber {k : Nat} {C : Addr} (F : Fun K "__init__" "NoNumber.__init__" sNoNumber f fd) (T : EX K C) (hno : PySem.W.findIn K (.ref C) "number" = some none) : FnOk P w K mg base CX0 (k + 1) f fd ["self", "number"] (spIni K C "number") := by
  refine F.ok scNoNumber (fun vs H Q E h => ?_) (fun cdv A outer s H vs Q E hr h => ?_)
  · obtain ⟨a, v, d, rfl, _⟩ := h; rfl
  obtain ⟨a, v, d, rfl, ha, hv, _, _, _, q⟩ := h
  refine ⟨_, pss_one (ps_osK (pv 0) (pv 1)), v, rfl, _, rfl, a, C, rfl, T, hno, ha, fun dx nd ne => ?_⟩
  obtain ⟨e1, e2, e3⟩ := ini_end (n := "number") (C := C) hv nd ne
  exact q _ dx v e1 upd_same e2 e3
theorem scNoOperation : FnScope ["self", "many"] ["self", "many"] (defScope sNoOperation) := ⟨rfl, rfl, rfl, by decide +kernel, rfl, by decide +kernel, by decide +kernel⟩
theorem ok_NoOperation {k : Nat} {C : Addr} (F : Fun K "__init__" "NoOperation.__init__" sNoOperation f fd) (T : EX K C) (hno : PySem.W.findIn K (.ref C) "many" = some none) : FnOk P w K mg base CX0 (k + 1) f fd ["self", "many"] (spIni K C "many") := by
  refine F.ok scNoOperation (fun vs H Q E h => ?_) (fun cdv A outer s H vs Q E hr h => ?_)
  · obtain ⟨a, v, d, rfl, _⟩ := h; rfl
  obtain ⟨a, v, d, rfl, ha, hv, _, _, _, q⟩ := h
  refine ⟨_, pss_one (ps_osK (pv 0) (pv 1)), v, rfl, _, rfl, a, C, rfl, T, hno, ha, fun dx nd ne => ?_⟩
  obtain ⟨e1, e2, e3⟩ := ini_end (n := "many") (C := C) hv nd ne
  exact q _ dx v e1 upd_same e2 e3
theorem scTooMany : FnScope ["self", "many"] ["self", "many"] (defScope sTooMany) := ⟨rfl, rfl, rfl, by decide +kernel, rfl, by decide +kernel, by decide +kernel⟩
theorem ok_TooMany {k : Nat} {C : Addr} (F : Fun K "__init__" "TooMany.__init__" sTooMany f fd) (T : EX K C) (hno : PySem.W.findIn K (.ref C) "many" = some none) : FnOk P w K mg base CX0 (k + 1) f fd ["self", "many"] (spIni K C "many") := by
  refine F.ok scTooMany (fun vs H Q E h => ?_) (fun cdv A outer s H vs Q E hr h => ?_)
  · obtain ⟨a, v, d, rfl, _⟩ := h; rfl
  obtain ⟨a, v, d, rfl, ha, hv, _, _, _, q⟩ := h
  refine ⟨_, pss_one (ps_osK (pv 0) (pv 1)), v, rfl, _, rfl, a, C, rfl, T, hno, ha, fun dx nd ne => ?_⟩
  obtain ⟨e1, e2, e3⟩ := ini_end (n := "many") (C := C) hv nd ne
  exact q _ dx v e1 upd_same e2 e3
theorem scFull : FnScope ["self", "many"] ["self", "many"] (defScope sFull) := ⟨rfl, rfl, rfl, by decide +kernel, rfl, by decide +kernel, by decide +kernel⟩
theorem ok_Full {k : Nat} {C : Addr} (F : Fun K "__init__" "Full.__init__" sFull f fd) (T : EX K C) (hno : PySem.W.findIn K (.ref C) "many" = some none) : FnOk P w K mg base CX0 (k + 1) f fd ["self", "many"] (spIni K C "many") := by
  refine F.ok scFull (fun vs H Q E h => ?_) (fun cdv A outer s H vs Q E hr h => ?_)
  · obtain ⟨a, v, d, rfl, _⟩ := h; rfl
  obtain ⟨a, v, d, rfl, ha, hv, _, _, _, q⟩ := h
  refine ⟨_, pss_one (ps_osK (pv 0) (pv 1)), v, rfl, _, rfl, a, C, rfl, T, hno, ha, fun dx nd ne => ?_⟩
  obtain ⟨e1, e2, e3⟩ := ini_end (n := "many") (C := C) hv nd ne
  exact q _ dx v e1 upd_same e2 e3
theorem scUnfit : FnScope ["self", "pair"] ["self", "pair"] (defScope sUnfit) := ⟨rfl, rfl, rfl, by decide +kernel, rfl, by decide +kernel, by decide +kernel⟩
theorem ok_Unfit {C g : Addr} {gd : FuncData} (F : Fun K "__init__" "Unfit.__init__" sUnfit f fd) (T : EX K C) (hno : PySem.W.findIn K (.ref C) "pair" = some none) (G : FnOk P w K mg base CX0 4 g gd ["value"] (spCopied K 4)) (mG : mg "copied" = some (.ref g)) (kG : PySem.W.keepIn K (.ref g) = true) (bG : Binds K gd ["value"] []) : FnOk P w K mg base CX0 5 f fd ["self", "pair"] (spIni K C "pair") := by
  refine F.ok scUnfit (fun vs H Q E h => ?_) (fun cdv A outer s H vs Q E hr h => ?_)
  · obtain ⟨a, v, d, rfl, _⟩ := h; rfl
  obtain ⟨a, v, d, rfl, ha, hv, hl, hd, hn, q⟩ := h
  refine ⟨_, pss_one (ps_osK (pv 0) (pe_call G hr (by rfl) mG kG bG .nil pass0 (pa_cons (pv 1) pa_nil))), _, rfl, v, d, rfl, same_dp (hid_same H a) hv, hl, hd, hn, fun u G1 sm hu => ?_⟩
  refine ⟨_, rfl, a, C, rfl, T, hno, sm _ _ ha, fun dx nd ne => ?_⟩
  obtain ⟨e1, e2, e3⟩ := ini_end (n := "pair") (C := C) (st_dp (st_hid (sm _ _ ha)) hl hu) nd ne
  exact q _ dx u ((ap_same sm).trans e1) upd_same e2 e3
theorem scImpossible : FnScope ["self", "evidence"] ["self", "evidence"] (defScope sImpossible) := ⟨rfl, rfl, rfl, by decide +kernel, rfl, by decide +kernel, by decide +kernel⟩
theorem ok_Impossible {C g : Addr} {gd : FuncData} (F : Fun K "__init__" "Impossible.__init__" sImpossible f fd) (T : EX K C) (hno : PySem.W.findIn K (.ref C) "evidence" = some none) (G : FnOk P w K mg base CX0 4 g gd ["value"] (spCopied K 4)) (mG : mg "copied" = some (.ref g)) (kG : PySem.W.keepIn K (.ref g) = true) (bG : Binds K gd ["value"] []) : FnOk P w K mg base CX0 5 f fd ["self", "evidence"] (spIni K C "evidence") := by
  refine F.ok scImpossible (fun vs H Q E h => ?_) (fun cdv A outer s H vs Q E hr h => ?_)
  · obtain ⟨a, v, d, rfl, _⟩ := h; rfl
  obtain ⟨a, v, d, rfl, ha, hv, hl, hd, hn, q⟩ := h
  refine ⟨_, pss_one (ps_osK (pv 0) (pe_call G hr (by rfl) mG kG bG .nil pass0 (pa_cons (pv 1) pa_nil))), _, rfl, v, d, rfl, same_dp (hid_same H a) hv, hl, hd, hn, fun u G1 sm hu => ?_⟩
  refine ⟨_, rfl, a, C, rfl, T, hno, sm _ _ ha, fun dx nd ne => ?_⟩
  obtain ⟨e1, e2, e3⟩ := ini_end (n := "evidence") (C := C) (st_dp (st_hid (sm _ _ ha)) hl hu) nd ne
  exact q _ dx u ((ap_same sm).trans e1) upd_same e2 e3
theorem scBlocked : FnScope ["self", "pair"] ["self", "pair"] (defScope sBlocked) := ⟨rfl, rfl, rfl, by decide +kernel, rfl, by decide +kernel, by decide +kernel⟩
theorem ok_Blocked {C g : Addr} {gd : FuncData} (F : Fun K "__init__" "Blocked.__init__" sBlocked f fd) (T : EX K C) (hno : PySem.W.findIn K (.ref C) "pair" = some none) (G : FnOk P w K mg base CX0 4 g gd ["value"] (spCopied K 4)) (mG : mg "copied" = some (.ref g)) (kG : PySem.W.keepIn K (.ref g) = true) (bG : Binds K gd ["value"] []) : FnOk P w K mg base CX0 5 f fd ["self", "pair"] (spIni K C "pair") := by
  refine F.ok scBlocked (fun vs H Q E h => ?_) (fun cdv A outer s H vs Q E hr h => ?_)
  · obtain ⟨a, v, d, rfl, _⟩ := h; rfl
  obtain ⟨a, v, d, rfl, ha, hv, hl, hd, hn, q⟩ := h
  refine ⟨_, pss_one (ps_osK (pv 0) (pe_call G hr (by rfl) mG kG bG .nil pass0 (pa_cons (pv 1) pa_nil))), _, rfl, v, d, rfl, same_dp (hid_same H a) hv, hl, hd, hn, fun u G1 sm hu => ?_⟩
  refine ⟨_, rfl, a, C, rfl, T, hno, sm _ _ ha, fun dx nd ne => ?_⟩
  obtain ⟨e1, e2, e3⟩ := ini_end (n := "pair") (C := C) (st_dp (st_hid (sm _ _ ha)) hl hu) nd ne
  exact q _ dx u ((ap_same sm).trans e1) upd_same e2 e3
/-! ### OtherPeople -/
def spIni0 (C : Addr) : Sp := fun vs H Q _ => ∃ a, vs = [.ref a] ∧ H a = some (exo a C none) ∧ Q .non H
theorem scOtherPeople : FnScope ["self"] ["self"] (defScope sOtherPeople) := ⟨rfl, rfl, rfl, by decide +kernel, rfl, by decide +kernel, by decide +kernel⟩
theorem ok_OtherPeople {k : Nat} {C : Addr} (F : Fun K "__init__" "OtherPeople.__init__" sOtherPeople f fd) (T : OexC K C) (hm : mg "ValueError" = none) (vV : PySem.W.findCls K (.type "ValueError") (.type "type") "__init__" = some (.val (.builtin "ValueError.__init__"))) : FnOk P w K mg base CX0 (k + 1) f fd ["self"] (spIni0 C) := by
  refine F.ok scOtherPeople (fun vs H Q E h => ?_) (fun cdv A outer s H vs Q E hr h => ?_)
  · obtain ⟨a, rfl, _⟩ := h; rfl
  obtain ⟨a, rfl, ha, q⟩ := h
  exact ⟨_, pss_one (ps_expr (pe_veinit (by rfl) hm vV (pa_cons (pv 0) pa_nil))), _, rfl, a, C, [], rfl, by decide, T, ha, q⟩
end
end K15

set_option Elab.async false
set_option linter.all false
set_option maxRecDepth 100000
set_option maxHeartbeats 4000000
namespace K15
open PySem PySem.Spec PyProof.Rows L2 Hs

/-! ### list.count of truth values -/
def rCountB : V → List V → Hp → VK → Prop := fun x vs H Q => ∃ l bs k, x = .ref l ∧ vs = [.bl k] ∧ H l = some (.lst (List.map V.bl bs)) ∧ Q (.int (List.count k bs : Nat)) H
theorem dp_bls {K : PySem.W.Frag} {H : Hp} : ∀ bs : List Bool, DpAll K H (bs.map V.bl) (bs.map PyData.bool)
  | [] => .nil
  | b :: bs => .cons (.bl b) (dp_bls bs)
theorem plain_bls : ∀ bs : List Bool, PyData.plainAll (bs.map PyData.bool) = true
  | [] => rfl
  | b :: bs => by
    show (PyData.plain (.bool b) && PyData.plainAll (bs.map PyData.bool)) = true
    rw [plain_bls bs]; rfl
theorem deep_bls : ∀ bs : List Bool, PyData.depthAll (bs.map PyData.bool) = 0
  | [] => rfl
  | b :: bs => by
    show max (PyData.depth (.bool b)) (PyData.depthAll (bs.map PyData.bool)) = 0
    rw [deep_bls bs]; rfl
theorem count_bls (k : Bool) : ∀ bs : List Bool, (bs.map PyData.bool).countP (fun y => PyData.eqv y (.bool k)) = bs.count k
  | [] => rfl
  | b :: bs => by
    rw [List.map_cons, List.countP_cons, List.count_cons, count_bls k bs]
    cases b <;> cases k <;> rfl
theorem mt_countB {X : Cx} (hu : X.A.units + 64 < cLine) : MtM X "list.count" rCountB := by
  intro pins s σ H x vs v us Q I rx rv h
  obtain ⟨l, bs, k, rfl, rfl, hH, q⟩ := h
  cases rx
  obtain ⟨u, rfl, ru⟩ := rv.one
  obtain rfl : u = Value.bool k := ru
  obtain ⟨z, its, n, r, hl, e⟩ := I.lstM hH
  obtain ⟨as, ra⟩ := Dp.readsAll I _ _ _ (dp_bls bs) r
  refine PySem.SeqAt.count_list_data (vs := its.toArray) (xs := bs.map PyData.bool) (d := .bool k) ⟨_, e, rfl, n, rfl⟩ ra (Reads.bool k) (plain_bls bs) rfl ?_ ?_
  · show X.A.units + 1 + min _ 0 < cLine
    rw [Nat.min_zero]; omega
  · rw [count_bls]
    exact ⟨.int _, H, I.tok _, ⟨_, rfl⟩, q⟩
section
variable {P : Program} {w : World} {K : PySem.W.Frag} {mg : Str → Option Value} {base : Heap} {f : Addr} {fd : FuncData}
/-- where the classes stand -/
structure Nm (mg : Str → Option Value) (D : Nat → Addr) : Prop where
  n0 : mg "BadLine" = some (.ref (D 0))
  n1 : mg "BadText" = some (.ref (D 1))
  n2 : mg "Blocked" = some (.ref (D 2))
  n3 : mg "Full" = some (.ref (D 3))
  n4 : mg "Impossible" = some (.ref (D 4))
  n5 : mg "NoArm" = some (.ref (D 5))
  n6 : mg "NoNumber" = some (.ref (D 6))
  n7 : mg "NoOperation" = some (.ref (D 7))
  n8 : mg "NoPerson" = some (.ref (D 8))
  n9 : mg "NoPlace" = some (.ref (D 9))
  n10 : mg "OtherPeople" = some (.ref (D 10))
  n11 : mg "TooMany" = some (.ref (D 11))
  n12 : mg "Unfit" = some (.ref (D 12))
def flagsL (bs : Nat → Bool) : List Bool := [bs 0, bs 1, bs 2, bs 3, bs 4, bs 5, bs 6, bs 7, bs 8, bs 9, bs 10, bs 11, bs 12]
def Kits (K : PySem.W.Frag) (D : Nat → Addr) (C : Addr) (bs : Nat → Bool) : Prop := ∀ i, i < 13 → PySem.W.kitOne K (.ref C) (.ref (D i)) = some (bs i)
def spFlags (K : PySem.W.Frag) (D : Nat → Addr) : Sp := fun vs H Q _ => ∃ a C fs bs, vs = [.ref a] ∧ EX K C ∧ ErAt H a C fs ∧ Kits K D C bs ∧ ∀ p G, Same H G → G p = some (.lst ((flagsL bs).map V.bl)) → Q (.ref p) G
theorem scFlags : FnScope ["_law_made", "_law_flags_here"] ["_law_made"] (defScope sFlags) := ⟨rfl, rfl, rfl, by decide +kernel, rfl, by decide +kernel, by decide +kernel⟩
theorem ok_flags {k : Nat} {D : Nat → Addr} (F : Fun K "_law_flags" "_law_flags" sFlags f fd) (B : B0 mg) (N : Nm mg D) : FnOk P w K mg base CX0 (k + 1) f fd ["_law_made"] (spFlags K D) := by
  refine F.ok scFlags (fun vs H Q E h => ?_) (fun cdv A outer s H vs Q E hr h => ?_)
  · obtain ⟨a, C, fs, bs, rfl, _⟩ := h; rfl
  obtain ⟨a, C, fs, bs, rfl, T, er, kt, q⟩ := h
  refine ⟨_, pss_cons (ps_set (i := 1) scFlags.nd rfl (.inl rfl) (pe_lst (pa_cons (pe_callB call_isX (by rfl) B.isinstance PyProof.Rows.boot_isinstance (pa_cons (pv 0) (pa_cons (pe_glob (v := .ref (D 0)) (by rfl) N.n0 rfl) pa_nil))) (pa_cons (pe_callB call_isX (by rfl) B.isinstance PyProof.Rows.boot_isinstance (pa_cons (pv 0) (pa_cons (pe_glob (v := .ref (D 1)) (by rfl) N.n1 rfl) pa_nil))) (pa_cons (pe_callB call_isX (by rfl) B.isinstance PyProof.Rows.boot_isinstance (pa_cons (pv 0) (pa_cons (pe_glob (v := .ref (D 2)) (by rfl) N.n2 rfl) pa_nil))) (pa_cons (pe_callB call_isX (by rfl) B.isinstance PyProof.Rows.boot_isinstance (pa_cons (pv 0) (pa_cons (pe_glob (v := .ref (D 3)) (by rfl) N.n3 rfl) pa_nil))) pa_nil))))))
    (pss_cons (ps_set (i := 1) scFlags.nd rfl (.inl rfl) (pe_op op_cat (pv 1) (pe_lst (pa_cons (pe_callB call_isX (by rfl) B.isinstance PyProof.Rows.boot_isinstance (pa_cons (pv 0) (pa_cons (pe_glob (v := .ref (D 4)) (by rfl) N.n4 rfl) pa_nil))) (pa_cons (pe_callB call_isX (by rfl) B.isinstance PyProof.Rows.boot_isinstance (pa_cons (pv 0) (pa_cons (pe_glob (v := .ref (D 5)) (by rfl) N.n5 rfl) pa_nil))) (pa_cons (pe_callB call_isX (by rfl) B.isinstance PyProof.Rows.boot_isinstance (pa_cons (pv 0) (pa_cons (pe_glob (v := .ref (D 6)) (by rfl) N.n6 rfl) pa_nil))) pa_nil))))))
    (pss_cons (ps_set (i := 1) scFlags.nd rfl (.inl rfl) (pe_op op_cat (pv 1) (pe_lst (pa_cons (pe_callB call_isX (by rfl) B.isinstance PyProof.Rows.boot_isinstance (pa_cons (pv 0) (pa_cons (pe_glob (v := .ref (D 7)) (by rfl) N.n7 rfl) pa_nil))) (pa_cons (pe_callB call_isX (by rfl) B.isinstance PyProof.Rows.boot_isinstance (pa_cons (pv 0) (pa_cons (pe_glob (v := .ref (D 8)) (by rfl) N.n8 rfl) pa_nil))) (pa_cons (pe_callB call_isX (by rfl) B.isinstance PyProof.Rows.boot_isinstance (pa_cons (pv 0) (pa_cons (pe_glob (v := .ref (D 9)) (by rfl) N.n9 rfl) pa_nil))) pa_nil))))))
    (pss_one (ps_ret (pe_op op_cat (pv 1) (pe_lst (pa_cons (pe_callB call_isX (by rfl) B.isinstance PyProof.Rows.boot_isinstance (pa_cons (pv 0) (pa_cons (pe_glob (v := .ref (D 10)) (by rfl) N.n10 rfl) pa_nil))) (pa_cons (pe_callB call_isX (by rfl) B.isinstance PyProof.Rows.boot_isinstance (pa_cons (pv 0) (pa_cons (pe_glob (v := .ref (D 11)) (by rfl) N.n11 rfl) pa_nil))) (pa_cons (pe_callB call_isX (by rfl) B.isinstance PyProof.Rows.boot_isinstance (pa_cons (pv 0) (pa_cons (pe_glob (v := .ref (D 12)) (by rfl) N.n12 rfl) pa_nil))) pa_nil))))))))), ?_⟩
  refine ⟨_, rfl, a, C, fs, _, _, _, rfl, T, er, .own _, kt 0 (by decide), _, rfl, a, C, fs, _, _, _, rfl, T, er, .own _, kt 1 (by decide), _, rfl, a, C, fs, _, _, _, rfl, T, er, .own _, kt 2 (by decide), _, rfl, a, C, fs, _, _, _, rfl, T, er, .own _, kt 3 (by decide), (by show 4 ≤ sizeLine; decide), fun p1 n1 => ?_⟩
  have s1 := same_new (H := H) (o := .lst [.bl (bs 0), .bl (bs 1), .bl (bs 2), .bl (bs 3)]) n1
  have h1 : (upd H p1 (.lst [.bl (bs 0), .bl (bs 1), .bl (bs 2), .bl (bs 3)])) p1 = some (.lst [.bl (bs 0), .bl (bs 1), .bl (bs 2), .bl (bs 3)]) := upd_same
  generalize upd H p1 (.lst [.bl (bs 0), .bl (bs 1), .bl (bs 2), .bl (bs 3)]) = G1 at s1 h1
  refine ⟨_, rfl, _, rfl, a, C, fs, _, _, _, rfl, T, (er.same s1), .own _, kt 4 (by decide), _, rfl, a, C, fs, _, _, _, rfl, T, (er.same s1), .own _, kt 5 (by decide), _, rfl, a, C, fs, _, _, _, rfl, T, (er.same s1), .own _, kt 6 (by decide), (by show 3 ≤ sizeLine; decide), fun r1 m1 => ?_⟩
  have u1 := same_new (H := G1) (o := .lst [.bl (bs 4), .bl (bs 5), .bl (bs 6)]) m1
  have v1 : (upd G1 r1 (.lst [.bl (bs 4), .bl (bs 5), .bl (bs 6)])) r1 = some (.lst [.bl (bs 4), .bl (bs 5), .bl (bs 6)]) := upd_same
  generalize upd G1 r1 (.lst [.bl (bs 4), .bl (bs 5), .bl (bs 6)]) = J1 at u1 v1 ⊢
  refine ⟨_, _, _, _, rfl, rfl, u1 _ _ h1, v1, (by show 7 ≤ sizeLine; decide), fun p2 n2 => ?_⟩
  have s2 := (s1.trans u1).trans (same_new (H := J1) (o := .lst [.bl (bs 0), .bl (bs 1), .bl (bs 2), .bl (bs 3), .bl (bs 4), .bl (bs 5), .bl (bs 6)]) n2)
  have h2 : (upd J1 p2 (.lst [.bl (bs 0), .bl (bs 1), .bl (bs 2), .bl (bs 3), .bl (bs 4), .bl (bs 5), .bl (bs 6)])) p2 = some (.lst [.bl (bs 0), .bl (bs 1), .bl (bs 2), .bl (bs 3), .bl (bs 4), .bl (bs 5), .bl (bs 6)]) := upd_same
  generalize hG2 : upd J1 p2 (.lst [.bl (bs 0), .bl (bs 1), .bl (bs 2), .bl (bs 3), .bl (bs 4), .bl (bs 5), .bl (bs 6)]) = G2 at s2 h2
  rw [show upd J1 p2 (.lst ([.bl (bs 0), .bl (bs 1), .bl (bs 2), .bl (bs 3)] ++ [.bl (bs 4), .bl (bs 5), .bl (bs 6)])) = G2 from hG2]
  refine ⟨_, rfl, _, rfl, a, C, fs, _, _, _, rfl, T, (er.same s2), .own _, kt 7 (by decide), _, rfl, a, C, fs, _, _, _, rfl, T, (er.same s2), .own _, kt 8 (by decide), _, rfl, a, C, fs, _, _, _, rfl, T, (er.same s2), .own _, kt 9 (by decide), (by show 3 ≤ sizeLine; decide), fun r2 m2 => ?_⟩
  have u2 := same_new (H := G2) (o := .lst [.bl (bs 7), .bl (bs 8), .bl (bs 9)]) m2
  have v2 : (upd G2 r2 (.lst [.bl (bs 7), .bl (bs 8), .bl (bs 9)])) r2 = some (.lst [.bl (bs 7), .bl (bs 8), .bl (bs 9)]) := upd_same
  generalize upd G2 r2 (.lst [.bl (bs 7), .bl (bs 8), .bl (bs 9)]) = J2 at u2 v2 ⊢
  refine ⟨_, _, _, _, rfl, rfl, u2 _ _ h2, v2, (by show 10 ≤ sizeLine; decide), fun p3 n3 => ?_⟩
  have s3 := (s2.trans u2).trans (same_new (H := J2) (o := .lst [.bl (bs 0), .bl (bs 1), .bl (bs 2), .bl (bs 3), .bl (bs 4), .bl (bs 5), .bl (bs 6), .bl (bs 7), .bl (bs 8), .bl (bs 9)]) n3)
  have h3 : (upd J2 p3 (.lst [.bl (bs 0), .bl (bs 1), .bl (bs 2), .bl (bs 3), .bl (bs 4), .bl (bs 5), .bl (bs 6), .bl (bs 7), .bl (bs 8), .bl (bs 9)])) p3 = some (.lst [.bl (bs 0), .bl (bs 1), .bl (bs 2), .bl (bs 3), .bl (bs 4), .bl (bs 5), .bl (bs 6), .bl (bs 7), .bl (bs 8), .bl (bs 9)]) := upd_same
  generalize hG3 : upd J2 p3 (.lst [.bl (bs 0), .bl (bs 1), .bl (bs 2), .bl (bs 3), .bl (bs 4), .bl (bs 5), .bl (bs 6), .bl (bs 7), .bl (bs 8), .bl (bs 9)]) = G3 at s3 h3
  rw [show upd J2 p3 (.lst ([.bl (bs 0), .bl (bs 1), .bl (bs 2), .bl (bs 3), .bl (bs 4), .bl (bs 5), .bl (bs 6)] ++ [.bl (bs 7), .bl (bs 8), .bl (bs 9)])) = G3 from hG3]
  refine ⟨_, rfl, _, rfl, a, C, fs, _, _, _, rfl, T, (er.same s3), .own _, kt 10 (by decide), _, rfl, a, C, fs, _, _, _, rfl, T, (er.same s3), .own _, kt 11 (by decide), _, rfl, a, C, fs, _, _, _, rfl, T, (er.same s3), .own _, kt 12 (by decide), (by show 3 ≤ sizeLine; decide), fun r3 m3 => ?_⟩
  have u3 := same_new (H := G3) (o := .lst [.bl (bs 10), .bl (bs 11), .bl (bs 12)]) m3
  have v3 : (upd G3 r3 (.lst [.bl (bs 10), .bl (bs 11), .bl (bs 12)])) r3 = some (.lst [.bl (bs 10), .bl (bs 11), .bl (bs 12)]) := upd_same
  generalize upd G3 r3 (.lst [.bl (bs 10), .bl (bs 11), .bl (bs 12)]) = J3 at u3 v3 ⊢
  refine ⟨_, _, _, _, rfl, rfl, u3 _ _ h3, v3, (by show 13 ≤ sizeLine; decide), fun p4 n4 => ?_⟩
  exact q _ _ ((s3.trans u3).trans (same_new n4)) upd_same
/-! ### one_right -/
structure Rk (K : PySem.W.Frag) (D : Nat → Addr) (C : Addr) (n : Nat) : Prop where
  ex : EX K C
  fl : ∃ bs, Kits K D C bs ∧ (flagsL bs).count true = 1
  kd : ∃ b0 b1 b2 b3, PySem.W.kitOne K (.ref C) (.type "ValueError") = some b0 ∧ PySem.W.kitOne K (.ref C) (.type "LookupError") = some b1 ∧ PySem.W.kitOne K (.ref C) (.type "RuntimeError") = some b2 ∧ PySem.W.kitOne K (.ref C) (.type "OverflowError") = some b3 ∧ [b0, b1, b2, b3] = ([false, false, false, false] : List Bool).set n true
  lt : n < 4
  no : PySem.W.kitAny K (.ref C) [.type "IndexError", .type "KeyError", .type "NotImplementedError"] = some false
def spOne (K : PySem.W.Frag) (D : Nat → Addr) : Sp := fun vs H Q _ => ∃ (a C : Addr) (fs : List (Str × V)) (n : Nat), vs = [.ref a, .int n] ∧ ErAt H a C fs ∧ Rk K D C n ∧ ∀ G, Same H G → Q (.bl true) G
theorem scOne : FnScope ["_law_made", "_law_at", "_law_kinds", "_law_due"] ["_law_made", "_law_at"] (defScope sOneRight) := ⟨rfl, rfl, rfl, by decide +kernel, rfl, by decide +kernel, by decide +kernel⟩
structure Eb (mg : Str → Option Value) : Prop where
  v : mg "ValueError" = none
  l : mg "LookupError" = none
  r : mg "RuntimeError" = none
  o : mg "OverflowError" = none
  i : mg "IndexError" = none
  k : mg "KeyError" = none
  n : mg "NotImplementedError" = none
theorem due_eqv (l : List Bool) : PyData.eqv (.list (l.map PyData.bool)) (.list (l.map PyData.bool)) = true := by
  show PyData.eqvAll (l.map PyData.bool) (l.map PyData.bool) = true
  induction l with
  | nil => rfl
  | cons b l ih => show (PyData.eqv (.bool b) (.bool b) && PyData.eqvAll (l.map PyData.bool) (l.map PyData.bool)) = true; rw [ih]; cases b <;> rfl
theorem ok_one {k : Nat} {D : Nat → Addr} {g : Addr} {gd : FuncData} (F : Fun K "_law_one_right" "_law_one_right" sOneRight f fd) (B : B0 mg) (Z : Eb mg) (G : Fx P w K mg base k "_law_flags" ["_law_made"] (spFlags K D) g gd) : FnOk P w K mg base CX0 (k + 1) f fd ["_law_made", "_law_at"] (spOne K D) := by
  refine F.ok scOne (fun vs H Q E h => ?_) (fun cdv A outer s H vs Q E hr h => ?_)
  · obtain ⟨a, C, fs, n, rfl, _⟩ := h; rfl
  obtain ⟨a, C, fs, n, rfl, er, ⟨T, ⟨bs, kt, c1⟩, ⟨b0, b1, b2, b3, k0, k1, k2, k3, kd⟩, lt, no⟩, q⟩ := h
  refine ⟨_, pss_cons (ps_if (pt_cmpR op_ne (pe_bm PySem.F.plainAttrs_list PySem.F.slot_list_count PySem.F.type_list_count (mt_countB hr.units) (pe_call G.ok hr (by rfl) G.m G.k G.b .nil pass0 (pa_cons (pv 0) pa_nil)) (pa_cons pe_bl pa_nil)) pe_int (nomark _)) (pss_one (ps_ret pe_bl)) pss_nil)
    (pss_cons (ps_set (i := 2) scOne.nd rfl (.inl rfl) (pe_lst (pa_cons (pe_callB call_isX (by rfl) B.isinstance PyProof.Rows.boot_isinstance (pa_cons (pv 0) (pa_cons (pe_bltn (v := .ty "ValueError") (by rfl) Z.v (by decide +kernel) rfl) pa_nil))) (pa_cons (pe_callB call_isX (by rfl) B.isinstance PyProof.Rows.boot_isinstance (pa_cons (pv 0) (pa_cons (pe_bltn (v := .ty "LookupError") (by rfl) Z.l (by decide +kernel) rfl) pa_nil))) (pa_cons (pe_callB call_isX (by rfl) B.isinstance PyProof.Rows.boot_isinstance (pa_cons (pv 0) (pa_cons (pe_bltn (v := .ty "RuntimeError") (by rfl) Z.r (by decide +kernel) rfl) pa_nil))) pa_nil)))))
    (pss_cons (ps_expr (pe_bm PySem.F.plainAttrs_list PySem.F.slot_list_append PySem.F.type_list_append mt_append (pv 2) (pa_cons (pe_callB call_isX (by rfl) B.isinstance PyProof.Rows.boot_isinstance (pa_cons (pv 0) (pa_cons (pe_bltn (v := .ty "OverflowError") (by rfl) Z.o (by decide +kernel) rfl) pa_nil))) pa_nil)))
    (pss_cons (ps_set (i := 3) scOne.nd rfl (.inl rfl) (pe_op op_rep (pe_lst (pa_cons pe_bl pa_nil)) pe_int))
    (pss_cons (ps_asg pe_bl (pg_sub (pv 3) (pv 1) set_list))
    (pss_one (ps_ret (pe_and (pe_cmpR (op_eqD hr.units) (pv 2) (pv 3) (nomark _)) (pe_one (pe_not (pe_callB call_isXT (by rfl) B.isinstance PyProof.Rows.boot_isinstance (pa_cons (pv 0) (pa_cons (pe_tup (pa_cons (pe_bltn (v := .ty "IndexError") (by rfl) Z.i (by decide +kernel) rfl) (pa_cons (pe_bltn (v := .ty "KeyError") (by rfl) Z.k (by decide +kernel) rfl) (pa_cons (pe_bltn (v := .ty "NotImplementedError") (by rfl) Z.n (by decide +kernel) rfl) pa_nil)))) pa_nil)))))))))))), ?_⟩
  refine ⟨_, rfl, a, C, fs, bs, rfl, T, er, kt, fun p G1 s1 h1 => ?_⟩
  refine ⟨.inl ⟨rfl, _, SqL.of h1⟩, p, flagsL bs, true, rfl, rfl, h1, rfl, _, rfl, ?_⟩
  rw [c1]
  refine iteF ?_
  have er1 := er.same s1
  refine ⟨_, rfl, a, C, fs, _, _, _, rfl, T, er1, .ty _, k0, _, rfl, a, C, fs, _, _, _, rfl, T, er1, .ty _, k1, _, rfl, a, C, fs, _, _, _, rfl, T, er1, .ty _, k2, (by show 3 ≤ sizeLine; decide), fun p2 n2 => ?_⟩
  have er2 := er1.same (same_new (o := .lst [.bl b0, .bl b1, .bl b2]) n2)
  refine ⟨_, rfl, .inl ⟨rfl, _, SqL.of upd_same⟩, _, rfl, a, C, fs, _, _, _, rfl, T, er2, .ty _, k3, p2, _, _, rfl, rfl, upd_same, (by show 3 < sizeLine; decide), ?_⟩
  have e2 : upd (upd G1 p2 (.lst [.bl b0, .bl b1, .bl b2])) p2 (.lst ([.bl b0, .bl b1, .bl b2] ++ [.bl b3])) = upd G1 p2 (.lst [.bl b0, .bl b1, .bl b2, .bl b3]) := by
    funext c
    by_cases z : c = p2
    · rw [z, upd_same, upd_same]; rfl
    · rw [upd_ne z, upd_ne z, upd_ne z]
  rw [e2]
  have s2 := s1.trans (same_new (o := .lst [.bl b0, .bl b1, .bl b2, .bl b3]) n2)
  have h2 : (upd G1 p2 (.lst [.bl b0, .bl b1, .bl b2, .bl b3])) p2 = some (.lst [.bl b0, .bl b1, .bl b2, .bl b3]) := upd_same
  generalize upd G1 p2 (.lst [.bl b0, .bl b1, .bl b2, .bl b3]) = G2 at s2 h2 ⊢
  refine ⟨(by show 1 ≤ sizeLine; decide), fun p3 n3 => ⟨p3, 4, _, rfl, rfl, upd_same, by decide, by decide, by decide, fun p4 n4 => ?_⟩⟩
  have s4 := s2.trans ((same_new (o := .lst [.bl false]) n3).trans (same_new (o := .lst [.bl false, .bl false, .bl false, .bl false]) n4))
  have h24 := ((same_new (o := .lst [.bl false]) n3).trans (same_new (o := .lst [.bl false, .bl false, .bl false, .bl false]) n4)) _ _ h2
  have n4H : H p4 = none := by
    cases z : H p4 with
    | none => rfl
    | some o => rw [(s2.trans (same_new (o := .lst [.bl false]) n3)) _ _ z] at n4; cases n4
  have ne42 : p2 ≠ p4 := fun z => by
    rw [← z] at n4
    rw [(same_new (o := .lst [.bl false]) n3) _ _ h2] at n4; cases n4
  refine ⟨_, rfl, _, rfl, p4, _, _, n, rfl, rfl, upd_same, ?_, ?_⟩
  · show ixN 4 (n : Int) = some n
    match n, lt with
    | 0, _ => rfl
    | 1, _ => rfl
    | 2, _ => rfl
    | 3, _ => rfl
  have hup : ∀ (J : Hp) (o1 o2 : HO), upd (upd J p4 o1) p4 o2 = upd J p4 o2 := fun J o1 o2 => by
    funext c
    by_cases z : c = p4
    · rw [z, upd_same, upd_same]
    · rw [upd_ne z, upd_ne z, upd_ne z]
  rw [hup]
  have s5 : Same H (upd (upd G2 p3 (.lst [.bl false])) p4 (.lst (List.set (List.replicate (4 : Int).toNat [V.bl false]).flatten n (.bl true)))) := same_grow n4H (s2.trans (same_new n3))
  have h25 : (upd (upd G2 p3 (.lst [.bl false])) p4 (.lst (List.set (List.replicate (4 : Int).toNat [V.bl false]).flatten n (.bl true)))) p2 = some (.lst [.bl b0, .bl b1, .bl b2, .bl b3]) := by rw [upd_ne ne42]; exact (same_new n3) _ _ h2
  have h45 : (upd (upd G2 p3 (.lst [.bl false])) p4 (.lst (List.set (List.replicate (4 : Int).toNat [V.bl false]).flatten n (.bl true)))) p4 = some (.lst ((([false, false, false, false] : List Bool).set n true).map V.bl)) := by
    rw [upd_same, List.map_set]; rfl
  generalize upd (upd G2 p3 (.lst [.bl false])) p4 (.lst (List.set (List.replicate (4 : Int).toNat [V.bl false]).flatten n (.bl true))) = G5 at s5 h25 h45 ⊢
  rw [← kd] at h45
  have dk : ∀ c, G5 c = some (.lst ([b0, b1, b2, b3].map V.bl)) → Dp K G5 (.ref c) (.list ([b0, b1, b2, b3].map PyData.bool)) := fun c hc => .lst (SqL.of hc) (dp_bls _)
  refine ⟨_, rfl, _, rfl, _, _, dk p2 h25, dk p4 h45, rfl, rfl, _, rfl, ?_⟩
  rw [due_eqv]
  refine iteT ⟨_, rfl, (by show 3 ≤ sizeLine; decide), fun p6 n6 => ?_⟩
  refine ⟨a, C, p6, fs, _, _, _, rfl, T, er.same (s5.trans (same_new n6)), upd_same, .cons (.ty _) (.cons (.ty _) (.cons (.ty _) .nil)), no, _, rfl, ?_⟩
  exact q _ (s5.trans (same_new n6))
end
end K15

set_option Elab.async false
set_option linter.all false
set_option maxRecDepth 100000
set_option maxHeartbeats 8000000
namespace K15
open PySem PySem.Spec PyProof.Rows L2 Hs

section
variable {P : Program} {w : World} {K : PySem.W.Frag} {mg : Str → Option Value} {base : Heap} {f : Addr} {fd : FuncData}
/-- data that an error may hold -/
def Fi (d : PyData) : Prop := lf d = true ∧ d.depth < 4 ∧ numD d ≤ 1000
theorem mkx {H : Hp} {C : Addr} {n : Str} {v : V} {d : PyData} {Q : Addr → Hp → Prop} (hv : Dp K H v d) (hf : Fi d) (fin : ∀ a G u, Same H G → ErAt G a C [(n, u)] → Dp K G u d → Q a G) :
    [v].length ≤ 1000 ∧ ∀ a, H a = none → spIni K C n (.ref a :: [v]) (upd H a (exo a C none)) (fun v H2 => v = .non ∧ Q a H2) (fun _ _ _ => False) := by
  refine ⟨(by show 1 ≤ 1000; decide), fun a na => ⟨a, v, d, rfl, upd_same, ?_, hf.1, hf.2.1, hf.2.2, fun G dx u ap h1 h2 h3 => ⟨rfl, ?_⟩⟩⟩
  · rw [hid_upd, hid_id na]; exact hv
  · unfold Ap at ap
    rw [hid_upd, hid_id na] at ap
    exact fin a G u (ap.trans (hid_same G a)) (.inr ⟨dx, h1, h2⟩) (same_dp (hid_same G a) h3)
/-- a made error: where it stands, its class, its field, what that holds -/
abbrev Er := Addr × Addr × Str × V × PyData
def EL (K : PySem.W.Frag) (G : Hp) (L : List Er) : Prop := ∀ (i : Nat) (e : Er), L[i]? = some e → ErAt G e.1 e.2.1 [(e.2.2.1, e.2.2.2.1)] ∧ Dp K G e.2.2.2.1 e.2.2.2.2
theorem EL.same {G J : Hp} {L : List Er} (h : EL K G L) (s : Same G J) : EL K J L := fun i e he => ⟨(h i e he).1.same s, same_dp s (h i e he).2⟩
theorem EL.snoc {G : Hp} {L : List Er} {a C : Addr} {n : Str} {u : V} {d : PyData} (h : EL K G L) (er : ErAt G a C [(n, u)]) (hu : Dp K G u d) : EL K G (L ++ [(a, C, n, u, d)]) := fun i e he => by
  by_cases hi : i < L.length
  · rw [List.getElem?_append_left hi] at he; exact h i e he
  · rw [List.getElem?_append_right (by omega)] at he
    have : i - L.length = 0 := by
      cases z : i - L.length with
      | zero => rfl
      | succ j => rw [z] at he; cases he
    rw [this] at he
    cases he
    exact ⟨er, hu⟩
theorem EL.nil {G : Hp} : EL K G [] := fun i e he => by cases he
theorem lk1 (n : Str) (u : V) : List.lookup n [(n, u)] = some u := by rw [lookup_put, if_pos rfl]
/-- an own error class, as the law asks of it -/
structure My (P : Program) (w : World) (K : PySem.W.Frag) (mg : Str → Option Value) (base : Heap) (k : Nat) (D : Nat → Addr) (x n : Str) (n4 : Nat) (C fI : Addr) (fd : FuncData) : Prop where
  m : Mx P w K mg base k x [n] (spIni K C n) C fI fd
  kb : ∀ (t : Shared) (a u : Value), BindsTo t fd ⟨[a], [(n, u)]⟩ [("self", a), (n, u)]
  no : PySem.W.findIn K (.ref C) n = some none
  r : Rk K D C n4
/-! ### the kinds -/
abbrev kindsN : List Nat := [0, 0, 0, 0, 1, 1, 1, 1, 1, 2, 3, 3]
def kindsV : List V := kindsN.map fun n => V.int (n : Nat)
theorem kinds_rd {σ : L2.St} {H : Hp} {Q : VK} (q : ∀ p G, Same H G → G p = some (.lst kindsV) → Q (.ref p) G) :
    (tOp rCat (tOp rCat (tOp rCat (tOp rRep (tLst (tCons (tC (.int 0)) tNil)) (tC (.int 4))) (tOp rRep (tLst (tCons (tC (.int 1)) tNil)) (tC (.int 5)))) (tLst (tCons (tC (.int 2)) tNil))) (tOp rRep (tLst (tCons (tC (.int 3)) tNil)) (tC (.int 2)))) σ H Q := by
  refine ⟨(by show 1 ≤ sizeLine; decide), fun p1 n1 => ⟨p1, 4, _, rfl, rfl, upd_same, by decide, by decide, by decide, fun p2 n2 => ?_⟩⟩
  have s2 := (same_new (o := .lst [.int 0]) n1).trans (same_new (o := .lst (List.replicate (4 : Int).toNat [V.int 0]).flatten) n2)
  have h2 : (upd (upd H p1 (.lst [.int 0])) p2 (.lst (List.replicate (4 : Int).toNat [V.int 0]).flatten)) p2 = some (.lst (List.replicate (4 : Int).toNat [V.int 0]).flatten) := upd_same
  generalize upd (upd H p1 (.lst [.int 0])) p2 (.lst (List.replicate (4 : Int).toNat [V.int 0]).flatten) = G2 at s2 h2 ⊢
  refine ⟨(by show 1 ≤ sizeLine; decide), fun p3 n3 => ⟨p3, 5, _, rfl, rfl, upd_same, by decide, by decide, by decide, fun p4 n4 => ?_⟩⟩
  have t4 := (same_new (o := .lst [.int 1]) n3).trans (same_new (o := .lst (List.replicate (5 : Int).toNat [V.int 1]).flatten) n4)
  have h4 : (upd (upd G2 p3 (.lst [.int 1])) p4 (.lst (List.replicate (5 : Int).toNat [V.int 1]).flatten)) p4 = some (.lst (List.replicate (5 : Int).toNat [V.int 1]).flatten) := upd_same
  generalize upd (upd G2 p3 (.lst [.int 1])) p4 (.lst (List.replicate (5 : Int).toNat [V.int 1]).flatten) = G4 at t4 h4 ⊢
  refine ⟨_, _, _, _, rfl, rfl, t4 _ _ h2, h4, (by decide), fun p5 n5 => ?_⟩
  have s5 := (s2.trans t4).trans (same_new (o := .lst ((List.replicate (4 : Int).toNat [V.int 0]).flatten ++ (List.replicate (5 : Int).toNat [V.int 1]).flatten)) n5)
  have h5 : (upd G4 p5 (.lst ((List.replicate (4 : Int).toNat [V.int 0]).flatten ++ (List.replicate (5 : Int).toNat [V.int 1]).flatten))) p5 = some (.lst ((List.replicate (4 : Int).toNat [V.int 0]).flatten ++ (List.replicate (5 : Int).toNat [V.int 1]).flatten)) := upd_same
  generalize upd G4 p5 (.lst ((List.replicate (4 : Int).toNat [V.int 0]).flatten ++ (List.replicate (5 : Int).toNat [V.int 1]).flatten)) = G5 at s5 h5 ⊢
  refine ⟨(by show 1 ≤ sizeLine; decide), fun p6 n6 => ⟨_, _, _, _, rfl, rfl, same_new n6 _ _ h5, upd_same, (by decide), fun p7 n7 => ?_⟩⟩
  have s7 := s5.trans ((same_new (o := .lst [.int 2]) n6).trans (same_new (o := .lst (((List.replicate (4 : Int).toNat [V.int 0]).flatten ++ (List.replicate (5 : Int).toNat [V.int 1]).flatten) ++ [.int 2])) n7))
  have h7 : (upd (upd G5 p6 (.lst [.int 2])) p7 (.lst (((List.replicate (4 : Int).toNat [V.int 0]).flatten ++ (List.replicate (5 : Int).toNat [V.int 1]).flatten) ++ [.int 2]))) p7 = some (.lst (((List.replicate (4 : Int).toNat [V.int 0]).flatten ++ (List.replicate (5 : Int).toNat [V.int 1]).flatten) ++ [.int 2])) := upd_same
  generalize upd (upd G5 p6 (.lst [.int 2])) p7 (.lst (((List.replicate (4 : Int).toNat [V.int 0]).flatten ++ (List.replicate (5 : Int).toNat [V.int 1]).flatten) ++ [.int 2])) = G7 at s7 h7 ⊢
  refine ⟨(by show 1 ≤ sizeLine; decide), fun p8 n8 => ⟨p8, 2, _, rfl, rfl, upd_same, by decide, by decide, by decide, fun p9 n9 => ?_⟩⟩
  refine ⟨_, _, _, _, rfl, rfl, ((same_new n8).trans (same_new n9)) _ _ h7, upd_same, (by decide), fun pa na => ?_⟩
  exact q _ _ (s7.trans ((same_new n8).trans ((same_new n9).trans (same_new na)))) upd_same
/-! ### right -/
abbrev rightN : List Str := ["_law_box_here", "_law_spot", "_law_far", "_law_values", "_law_made", "_law_named", "_law_some", "_law_fields", "_law_kinds", "_law_its", "_law_at"]
theorem scRight : FnScope rightN ["_law_box_here"] (defScope sRight) := ⟨rfl, rfl, rfl, by decide +kernel, rfl, by decide +kernel, by decide +kernel⟩
def spRight (K : PySem.W.Frag) : Sp := fun vs H Q _ => ∃ (b : Addr) (n : Nat), vs = [.ref b] ∧ BoxAt H b (n + 200) ∧ ∀ G, Ap b H G → BoxAt G b n → Q (.bl true) G
def Full12 (K : PySem.W.Frag) (C0 C1 C2 C3 C4 C5 C6 C7 C8 C9 C10 C11 : Addr) (dd : Nat → PyData) (p : Addr) (G : Hp) : Prop := ∃ a0 a1 a2 a3 a4 a5 a6 a7 a8 a9 a10 a11 u0 u1 u2 u3 u4 u5 u6 u7 u8 u9 u10 u11, G p = some (.lst [V.ref a0, V.ref a1, V.ref a2, V.ref a3, V.ref a4, V.ref a5, V.ref a6, V.ref a7, V.ref a8, V.ref a9, V.ref a10, V.ref a11]) ∧ EL K G [(a0, C0, ("text" : Str), u0, dd 0), (a1, C1, ("number" : Str), u1, dd 1), (a2, C2, ("pair" : Str), u2, dd 2), (a3, C3, ("evidence" : Str), u3, dd 3), (a4, C4, ("person" : Str), u4, dd 4), (a5, C5, ("person" : Str), u5, dd 5), (a6, C6, ("place" : Str), u6, dd 6), (a7, C7, ("number" : Str), u7, dd 7), (a8, C8, ("many" : Str), u8, dd 8), (a9, C9, ("pair" : Str), u9, dd 9), (a10, C10, ("many" : Str), u10, dd 10), (a11, C11, ("many" : Str), u11, dd 11)]
theorem Full12.same {C0 C1 C2 C3 C4 C5 C6 C7 C8 C9 C10 C11 p : Addr} {dd : Nat → PyData} {G J : Hp} (h : Full12 K C0 C1 C2 C3 C4 C5 C6 C7 C8 C9 C10 C11 dd p G) (s : Same G J) : Full12 K C0 C1 C2 C3 C4 C5 C6 C7 C8 C9 C10 C11 dd p J := by
  obtain ⟨a0, a1, a2, a3, a4, a5, a6, a7, a8, a9, a10, a11, u0, u1, u2, u3, u4, u5, u6, u7, u8, u9, u10, u11, hp, el⟩ := h
  exact ⟨_, _, _, _, _, _, _, _, _, _, _, _, _, _, _, _, _, _, _, _, _, _, _, _, s _ _ hp, el.same s⟩
theorem ok_right {k : Nat} {D : Nat → Addr} {fT fS fO CO fIO : Addr} {dT dS dO fdO : FuncData} (F : Fun K "_law_right" "_law_right" sRight f fd) (B : B0 mg) (Ta : Fx P w K mg base (k + 1) "_law_take" ["_law_box_here", "_law_below"] (spTake K) fT dT) (Tb : Fx P w K mg base (k + 1) "_law_take" ["_law_box_here", "_law_below"] (spTakeB K) fT dT) (Sa : Fx P w K mg base (k + 1) "_law_same" ["_law_found", "_law_due"] (spSame K 8) fS dS)
    (On : Fx P w K mg base (k + 1) "_law_one_right" ["_law_made", "_law_at"] (spOne K D) fO dO) (MO : Mx P w K mg base k "OtherPeople" [] (spIni0 CO) CO fIO fdO) (RO : Rk K D CO 0) {tm : Tok} (hM : mg "MOST" = some (.int 300 tm)) {C0 fI0 : Addr} {fd0 : FuncData} (M0 : My P w K mg base k D "BadText" "text" 0 C0 fI0 fd0) {C1 fI1 : Addr} {fd1 : FuncData} (M1 : My P w K mg base k D "BadLine" "number" 0 C1 fI1 fd1) {C2 fI2 : Addr} {fd2 : FuncData} (M2 : My P w K mg base k D "Unfit" "pair" 0 C2 fI2 fd2) {C3 fI3 : Addr} {fd3 : FuncData} (M3 : My P w K mg base k D "Impossible" "evidence" 0 C3 fI3 fd3) {C4 fI4 : Addr} {fd4 : FuncData} (M4 : My P w K mg base k D "NoPerson" "person" 1 C4 fI4 fd4) {C5 fI5 : Addr} {fd5 : FuncData} (M5 : My P w K mg base k D "NoArm" "person" 1 C5 fI5 fd5) {C6 fI6 : Addr} {fd6 : FuncData} (M6 : My P w K mg base k D "NoPlace" "place" 1 C6 fI6 fd6) {C7 fI7 : Addr} {fd7 : FuncData} (M7 : My P w K mg base k D "NoNumber" "number" 1 C7 fI7 fd7) {C8 fI8 : Addr} {fd8 : FuncData} (M8 : My P w K mg base k D "NoOperation" "many" 1 C8 fI8 fd8) {C9 fI9 : Addr} {fd9 : FuncData} (M9 : My P w K mg base k D "Blocked" "pair" 2 C9 fI9 fd9) {C10 fI10 : Addr} {fd10 : FuncData} (M10 : My P w K mg base k D "TooMany" "many" 3 C10 fI10 fd10) {C11 fI11 : Addr} {fd11 : FuncData} (M11 : My P w K mg base k D "Full" "many" 3 C11 fI11 fd11) : FnOk P w K mg base CX0 (k + 2) f fd ["_law_box_here"] (spRight K) := by
  refine F.ok scRight (fun vs H Q E h => ?_) (fun cdv A outer s H vs Q E hr h => ?_)
  · obtain ⟨b, n, rfl, _⟩ := h; rfl
  obtain ⟨b, n, rfl, hB, q⟩ := h
  refine ⟨_, (pss_cons (ps_par (i := 1) (j := 2) (by rfl) scRight.nd rfl rfl (by decide) rfl rfl (pa_cons (pe_call Ta.ok hr (by rfl) Ta.m Ta.k Ta.b .nil pass0 (pa_cons (pv 0) (pa_cons pe_int pa_nil))) (pa_cons (pe_call Tb.ok hr (by rfl) Tb.m Tb.k Tb.b .nil pass0 (pa_cons (pv 0) (pa_cons (pe_op op_pow pe_int pe_int) pa_nil))) pa_nil)) (by rfl))
    (pss_cons (ps_set (i := 3) scRight.nd rfl (.inl rfl) (pe_lst (pa_cons pe_str (pa_cons (pv 1) (pa_cons (pe_tup (pa_cons (pv 1) (pa_cons (pe_op op_add (pv 1) pe_int) pa_nil))) (pa_cons (pe_tup (pa_cons pe_str (pa_cons (pe_tup (pa_cons (pv 1) pa_nil)) pa_nil))) (pa_cons (pe_op op_sub (pv 2) pe_int) (pa_cons (pe_op op_sub (pv 2) pe_int) (pa_cons (pe_op op_sub (pv 2) pe_int) (pa_cons (pv 2) (pa_cons (pe_op op_add pe_int (pv 1)) pa_nil)))))))))))
    (pss_cons (ps_set (i := 3) scRight.nd rfl (.inl rfl) (pe_op op_cat (pv 3) (pe_lst (pa_cons (pe_tup (pa_cons (pe_op op_add (pv 1) pe_int) (pa_cons (pv 1) pa_nil))) (pa_cons (pe_op op_add pe_int (pv 2)) pa_nil)))))
    (pss_cons (ps_expr (pe_bm PySem.F.plainAttrs_list PySem.F.slot_list_append PySem.F.type_list_append mt_append (pv 3) (pa_cons (pe_op op_add pe_int (pe_op op_mul pe_int (pv 1))) pa_nil)))
    (pss_cons (ps_set (i := 4) scRight.nd rfl (.inl rfl) (pe_lst (pa_cons (pe_mkX M0.m hr pass0 (by rfl) (pa_cons (pe_ix ix_list (pv 3) pe_int (fun _ _ => rfl)) pa_nil)) (pa_cons (pe_mkX M1.m hr pass0 (by rfl) (pa_cons (pe_ix ix_list (pv 3) pe_int (fun _ _ => rfl)) pa_nil)) (pa_cons (pe_mkX M2.m hr pass0 (by rfl) (pa_cons (pe_ix ix_list (pv 3) pe_int (fun _ _ => rfl)) pa_nil)) (pa_cons (pe_mkX M3.m hr pass0 (by rfl) (pa_cons (pe_ix ix_list (pv 3) pe_int (fun _ _ => rfl)) pa_nil)) (pa_cons (pe_mkX M4.m hr pass0 (by rfl) (pa_cons (pe_ix ix_list (pv 3) pe_int (fun _ _ => rfl)) pa_nil)) pa_nil)))))))
    (pss_cons (ps_set (i := 4) scRight.nd rfl (.inl rfl) (pe_op op_cat (pv 4) (pe_lst (pa_cons (pe_mkX M5.m hr pass0 (by rfl) (pa_cons (pe_ix ix_list (pv 3) pe_int (fun _ _ => rfl)) pa_nil)) (pa_cons (pe_mkX M6.m hr pass0 (by rfl) (pa_cons (pe_ix ix_list (pv 3) pe_int (fun _ _ => rfl)) pa_nil)) (pa_cons (pe_mkX M7.m hr pass0 (by rfl) (pa_cons (pe_ix ix_list (pv 3) pe_int (fun _ _ => rfl)) pa_nil)) (pa_cons (pe_mkX M8.m hr pass0 (by rfl) (pa_cons (pe_ix ix_list (pv 3) pe_int (fun _ _ => rfl)) pa_nil)) pa_nil)))))))
    (pss_cons (ps_set (i := 4) scRight.nd rfl (.inl rfl) (pe_op op_cat (pv 4) (pe_lst (pa_cons (pe_mkX M9.m hr pass0 (by rfl) (pa_cons (pe_ix ix_list (pv 3) pe_int (fun _ _ => rfl)) pa_nil)) (pa_cons (pe_mkX M10.m hr pass0 (by rfl) (pa_cons (pe_ix ix_list (pv 3) pe_int (fun _ _ => rfl)) pa_nil)) (pa_cons (pe_mkX M11.m hr pass0 (by rfl) (pa_cons (pe_ix ix_list (pv 3) pe_int (fun _ _ => rfl)) pa_nil)) pa_nil))))))
    (pss_cons (ps_set (i := 5) scRight.nd rfl (.inl rfl) (pe_lst (pa_cons (pe_mkXK M0.m M0.kb hr pass0 (by rfl) (pe_ix ix_list (pv 3) pe_int (fun _ _ => rfl))) (pa_cons (pe_mkXK M1.m M1.kb hr pass0 (by rfl) (pe_ix ix_list (pv 3) pe_int (fun _ _ => rfl))) (pa_cons (pe_mkXK M2.m M2.kb hr pass0 (by rfl) (pe_ix ix_list (pv 3) pe_int (fun _ _ => rfl))) pa_nil)))))
    (pss_cons (ps_set (i := 5) scRight.nd rfl (.inl rfl) (pe_op op_cat (pv 5) (pe_lst (pa_cons (pe_mkXK M3.m M3.kb hr pass0 (by rfl) (pe_ix ix_list (pv 3) pe_int (fun _ _ => rfl))) (pa_cons (pe_mkXK M4.m M4.kb hr pass0 (by rfl) (pe_ix ix_list (pv 3) pe_int (fun _ _ => rfl))) (pa_cons (pe_mkXK M5.m M5.kb hr pass0 (by rfl) (pe_ix ix_list (pv 3) pe_int (fun _ _ => rfl))) pa_nil))))))
    (pss_cons (ps_set (i := 5) scRight.nd rfl (.inl rfl) (pe_op op_cat (pv 5) (pe_lst (pa_cons (pe_mkXK M6.m M6.kb hr pass0 (by rfl) (pe_ix ix_list (pv 3) pe_int (fun _ _ => rfl))) (pa_cons (pe_mkXK M7.m M7.kb hr pass0 (by rfl) (pe_ix ix_list (pv 3) pe_int (fun _ _ => rfl))) (pa_cons (pe_mkXK M8.m M8.kb hr pass0 (by rfl) (pe_ix ix_list (pv 3) pe_int (fun _ _ => rfl))) pa_nil))))))
    (pss_cons (ps_set (i := 5) scRight.nd rfl (.inl rfl) (pe_op op_cat (pv 5) (pe_lst (pa_cons (pe_mkXK M9.m M9.kb hr pass0 (by rfl) (pe_ix ix_list (pv 3) pe_int (fun _ _ => rfl))) (pa_cons (pe_mkXK M10.m M10.kb hr pass0 (by rfl) (pe_ix ix_list (pv 3) pe_int (fun _ _ => rfl))) (pa_cons (pe_mkXK M11.m M11.kb hr pass0 (by rfl) (pe_ix ix_list (pv 3) pe_int (fun _ _ => rfl))) pa_nil))))))
    (pss_cons (ps_for PassesOwn.never rfl (pi_tup (pe_tup (pa_cons (pv 4) (pa_cons (pv 5) pa_nil)))) (pg_name (i := 6) scRight.nd rfl (.inl rfl)) (pss_cons (ps_set (i := 7) scRight.nd rfl (.inl rfl) (pe_lst (pa_cons (pe_exf (pe_ix ix_list (pv 6) pe_int (fun _ _ => rfl))) (pa_cons (pe_exf (pe_ix ix_list (pv 6) pe_int (fun _ _ => rfl))) (pa_cons (pe_exf (pe_ix ix_list (pv 6) pe_int (fun _ _ => rfl))) (pa_cons (pe_exf (pe_ix ix_list (pv 6) pe_int (fun _ _ => rfl))) (pa_cons (pe_exf (pe_ix ix_list (pv 6) pe_int (fun _ _ => rfl))) (pa_cons (pe_exf (pe_ix ix_list (pv 6) pe_int (fun _ _ => rfl))) pa_nil))))))))
    (pss_cons (ps_set (i := 7) scRight.nd rfl (.inl rfl) (pe_op op_cat (pv 7) (pe_lst (pa_cons (pe_exf (pe_ix ix_list (pv 6) pe_int (fun _ _ => rfl))) (pa_cons (pe_exf (pe_ix ix_list (pv 6) pe_int (fun _ _ => rfl))) (pa_cons (pe_exf (pe_ix ix_list (pv 6) pe_int (fun _ _ => rfl))) (pa_cons (pe_exf (pe_ix ix_list (pv 6) pe_int (fun _ _ => rfl))) (pa_cons (pe_exf (pe_ix ix_list (pv 6) pe_int (fun _ _ => rfl))) pa_nil))))))))
    (pss_cons (ps_if (pt_not (pt_val (pe_call Sa.ok hr (by rfl) Sa.m Sa.k Sa.b .nil pass0 (pa_cons (pe_op op_cat (pv 7) (pe_lst (pa_cons (pe_exf (pe_ix ix_list (pv 6) pe_int (fun _ _ => rfl))) pa_nil))) (pa_cons (pv 3) pa_nil))))) (pss_one (ps_ret pe_bl)) pss_nil)
    (pss_cons (ps_set (i := 8) scRight.nd rfl (.inl rfl) (pe_op op_cat (pe_op op_cat (pe_op op_cat (pe_op op_rep (pe_lst (pa_cons pe_int pa_nil)) pe_int) (pe_op op_rep (pe_lst (pa_cons pe_int pa_nil)) pe_int)) (pe_lst (pa_cons pe_int pa_nil))) (pe_op op_rep (pe_lst (pa_cons pe_int pa_nil)) pe_int)))
    (pss_one (ps_if (pt_not (pt_val (pe_callB (cr_all rfl) (by rfl) B.all PyProof.Rows.boot_all (pa_cons (pe_lc (own := [("_law_its", 9), ("_law_at", 10)]) (g := gTup K 2 (gCons (gName 9) (gCons (gName 10) gNil))) (tt := tYes) (te := tCall (spOne K D) [] E0 (tCons (tVar 9) (tCons (tVar 10) tNil))) (by rfl) scRight.nd (RZ.pi_zipA (by rfl) B.zip (pa_cons (pv 6) (pa_cons (pv 8) pa_nil))) (blkOk_by (N := rightN) (sc := defScope sRight) (by decide +kernel)) (fun _ _ _ _ _ => pg_tup rfl (pgs_cons (pg_name (i := 9) scRight.nd rfl (Or.inl rfl)) (pgs_cons (pg_name (i := 10) scRight.nd rfl (Or.inl rfl)) pgs_nil))) (fun _ _ _ _ _ => pts_nil) (fun _ _ _ _ _ => (pe_call On.ok hr (by rfl) On.m On.k On.b .nil pass0 (pa_cons (pv 9) (pa_cons (pv 10) pa_nil))))) pa_nil)))) (pss_one (ps_ret pe_bl)) pss_nil)))))))
    (pss_one (ps_ret (pe_and (pe_call On.ok hr (by rfl) On.m On.k On.b .nil pass0 (pa_cons (pe_mkX0 MO hr pass0 (by rfl)) (pa_cons pe_int pa_nil))) (pe_one (pe_cmpR op_eq (pe_glob (v := .int 300) (by rfl) hM ⟨_, rfl⟩) pe_int (nomark _)))))))))))))))))), ?_⟩
  refine ⟨_, rfl, b, 20, n + 2, rfl, by decide, by decide, hB.mono (by omega), fun sp G1 sp0 sp1 ap1 hB1 => ?_⟩
  refine ⟨_, rfl, 10, 9, rfl, rfl, ⟨by decide, by decide, by decide⟩, b, _, n, rfl, by decide, by decide, hB1, fun far G2 f0 f1 ap2 hB2 => ⟨_, _, rfl, ?_⟩⟩
  have ap := ap1.trans ap2
  clear hB1 ap1 ap2 hB
  refine ⟨_, rfl, _, rfl, _, rfl, _, _, rfl, rfl, (by show 2 ≤ sizeLine; decide), fun t1 n1 => ?_⟩
  have x1 : Dp K (upd G2 t1 (.tup [.int sp, .int (sp + 1)])) (.ref t1) (.tuple [.int sp, .int (sp + 1)]) := .tup (SqT.of upd_same) (.cons (.int _) (.cons (.int _) .nil))
  have s1 : Same G2 (upd G2 t1 (.tup [.int sp, .int (sp + 1)])) := same_new n1
  generalize upd G2 t1 (.tup [.int sp, .int (sp + 1)]) = J1 at x1 s1 ⊢
  refine ⟨_, rfl, (by show 1 ≤ sizeLine; decide), fun t2 n2 => ⟨(by show 2 ≤ sizeLine; decide), fun t3 n3 => ?_⟩⟩
  have y2 : Same J1 (upd (upd J1 t2 (.tup [.int sp])) t3 (.tup [.str "odd", .ref t2])) := (same_new n2).trans (same_new n3)
  have x3 : Dp K (upd (upd J1 t2 (.tup [.int sp])) t3 (.tup [.str "odd", .ref t2])) (.ref t3) (.tuple [.str "odd", .tuple [.int sp]]) := .tup (SqT.of upd_same) (.cons (.str _) (.cons (.tup (SqT.of (same_new n3 _ _ upd_same)) (.cons (.int _) .nil)) .nil))
  generalize upd (upd J1 t2 (.tup [.int sp])) t3 (.tup [.str "odd", .ref t2]) = J3 at y2 x3 ⊢
  refine ⟨_, rfl, _, _, rfl, rfl, _, rfl, _, _, rfl, rfl, _, rfl, _, _, rfl, rfl, _, rfl, _, rfl, _, _, rfl, rfl, (by show 9 ≤ sizeLine; decide), fun l1 m1 => ?_⟩
  have y4 : Same J3 (upd J3 l1 (.lst [.str "x", .int sp, .ref t1, .ref t3, .int (far - 500), .int (far - 7), .int (far - 9), .int far, .int (61 + sp)])) := same_new m1
  have h4 : (upd J3 l1 (.lst [.str "x", .int sp, .ref t1, .ref t3, .int (far - 500), .int (far - 7), .int (far - 9), .int far, .int (61 + sp)])) l1 = some (.lst [.str "x", .int sp, .ref t1, .ref t3, .int (far - 500), .int (far - 7), .int (far - 9), .int far, .int (61 + sp)]) := upd_same
  generalize upd J3 l1 (.lst [.str "x", .int sp, .ref t1, .ref t3, .int (far - 500), .int (far - 7), .int (far - 9), .int far, .int (61 + sp)]) = J4 at y4 h4 ⊢
  refine ⟨_, rfl, _, rfl, _, _, rfl, rfl, _, rfl, (by show 2 ≤ sizeLine; decide), fun t4 n4 => ?_⟩
  have y5 : Same J4 (upd J4 t4 (.tup [.int (sp + 2), .int sp])) := same_new n4
  have x5 : Dp K (upd J4 t4 (.tup [.int (sp + 2), .int sp])) (.ref t4) (.tuple [.int (sp + 2), .int sp]) := .tup (SqT.of upd_same) (.cons (.int _) (.cons (.int _) .nil))
  generalize upd J4 t4 (.tup [.int (sp + 2), .int sp]) = J5 at y5 x5 ⊢
  refine ⟨_, rfl, _, _, rfl, rfl, (by show 2 ≤ sizeLine; decide), fun l2 m2 => ?_⟩
  refine ⟨_, _, _, _, rfl, rfl, same_new m2 _ _ (y5 _ _ h4), upd_same, (by show 11 ≤ sizeLine; decide), fun l3 m3 => ?_⟩
  have y6 : Same J5 (upd (upd J5 l2 (.lst [.ref t4, .int (301 + far)])) l3 (.lst [.str "x", .int sp, .ref t1, .ref t3, .int (far - 500), .int (far - 7), .int (far - 9), .int far, .int (61 + sp), .ref t4, .int (301 + far)])) := (same_new m2).trans (same_new m3)
  have h6 : (upd (upd J5 l2 (.lst [.ref t4, .int (301 + far)])) l3 (.lst [.str "x", .int sp, .ref t1, .ref t3, .int (far - 500), .int (far - 7), .int (far - 9), .int far, .int (61 + sp), .ref t4, .int (301 + far)])) l3 = some (.lst [.str "x", .int sp, .ref t1, .ref t3, .int (far - 500), .int (far - 7), .int (far - 9), .int far, .int (61 + sp), .ref t4, .int (301 + far)]) := upd_same
  have y0 := ((s1.trans y2).trans (y4.trans y5)).trans (same_new (o := .lst [.ref t4, .int (301 + far)]) m2)
  have e3 : G2 l3 = none := by
    cases z : G2 l3 with
    | none => rfl
    | some o => rw [y0 _ _ z] at m3; cases m3
  generalize hJ6 : upd (upd J5 l2 (.lst [.ref t4, .int (301 + far)])) l3 (.lst [.str "x", .int sp, .ref t1, .ref t3, .int (far - 500), .int (far - 7), .int (far - 9), .int far, .int (61 + sp), .ref t4, .int (301 + far)]) = J6 at y6 h6
  rw [show upd (upd J5 l2 (.lst [.ref t4, .int (301 + far)])) l3 (.lst ([.str "x", .int sp, .ref t1, .ref t3, .int (far - 500), .int (far - 7), .int (far - 9), .int far, .int (61 + sp)] ++ [.ref t4, .int (301 + far)])) = J6 from hJ6]
  have z6 : Same G2 J6 := (s1.trans y2).trans ((y4.trans y5).trans y6)
  have d6 : DpAll K J6 [.str "x", .int sp, .ref t1, .ref t3, .int (far - 500), .int (far - 7), .int (far - 9), .int far, .int (61 + sp), .ref t4, .int (301 + far), .int (24 + 2 * sp)] [.str "x", .int sp, .tuple [.int sp, .int (sp + 1)], .tuple [.str "odd", .tuple [.int sp]], .int (far - 500), .int (far - 7), .int (far - 9), .int far, .int (61 + sp), .tuple [.int (sp + 2), .int sp], .int (301 + far), .int (24 + 2 * sp)] := .cons (.str _) (.cons (.int _) (.cons (same_dp (y2.trans ((y4.trans y5).trans y6)) x1) (.cons (same_dp ((y4.trans y5).trans y6) x3) (.cons (.int _) (.cons (.int _) (.cons (.int _) (.cons (.int _) (.cons (.int _) (.cons (same_dp y6 x5) (.cons (.int _) (.cons (.int _) .nil)))))))))))
  refine ⟨_, rfl, .inl ⟨rfl, _, SqL.of h6⟩, _, rfl, _, _, rfl, rfl, .inl ⟨by decide, by decide⟩, _, _, rfl, rfl, l3, _, _, rfl, rfl, h6, (by show 11 < sizeLine; decide), ?_⟩
  have S0 : Same G2 (upd J6 l3 (.lst [.str "x", .int sp, .ref t1, .ref t3, .int (far - 500), .int (far - 7), .int (far - 9), .int far, .int (61 + sp), .ref t4, .int (301 + far), .int (24 + 2 * sp)])) := same_grow e3 z6
  have L0 : (upd J6 l3 (.lst [.str "x", .int sp, .ref t1, .ref t3, .int (far - 500), .int (far - 7), .int (far - 9), .int far, .int (61 + sp), .ref t4, .int (301 + far), .int (24 + 2 * sp)])) l3 = some (.lst [.str "x", .int sp, .ref t1, .ref t3, .int (far - 500), .int (far - 7), .int (far - 9), .int far, .int (61 + sp), .ref t4, .int (301 + far), .int (24 + 2 * sp)]) := upd_same
  have D0 : DpAll K (upd J6 l3 (.lst [.str "x", .int sp, .ref t1, .ref t3, .int (far - 500), .int (far - 7), .int (far - 9), .int far, .int (61 + sp), .ref t4, .int (301 + far), .int (24 + 2 * sp)])) [.str "x", .int sp, .ref t1, .ref t3, .int (far - 500), .int (far - 7), .int (far - 9), .int far, .int (61 + sp), .ref t4, .int (301 + far), .int (24 + 2 * sp)] [.str "x", .int sp, .tuple [.int sp, .int (sp + 1)], .tuple [.str "odd", .tuple [.int sp]], .int (far - 500), .int (far - 7), .int (far - 9), .int far, .int (61 + sp), .tuple [.int (sp + 2), .int sp], .int (301 + far), .int (24 + 2 * sp)] := st_dps (st_lst h6) rfl d6
  generalize hW : upd J6 l3 (.lst [.str "x", .int sp, .ref t1, .ref t3, .int (far - 500), .int (far - 7), .int (far - 9), .int far, .int (61 + sp), .ref t4, .int (301 + far), .int (24 + 2 * sp)]) = W0 at S0 L0 D0
  rw [show upd J6 l3 (.lst ([.str "x", .int sp, .ref t1, .ref t3, .int (far - 500), .int (far - 7), .int (far - 9), .int far, .int (61 + sp), .ref t4, .int (301 + far)] ++ [.int (24 + 2 * sp)])) = W0 from hW]
  clear hJ6 hW d6 h6 y6 y0 z6 x5 y5 h4 y4 x3 y2 x1 s1 m1 m2 m3 n1 n2 n3 n4
  obtain ⟨dd, hdd⟩ : ∃ dd : Nat → PyData, [dd 0, dd 1, dd 2, dd 3, dd 4, dd 5, dd 6, dd 7, dd 8, dd 9, dd 10, dd 11] = ([.str "x", .int sp, .tuple [.int sp, .int (sp + 1)], .tuple [.str "odd", .tuple [.int sp]], .int (far - 500), .int (far - 7), .int (far - 9), .int far, .int (61 + sp), .tuple [.int (sp + 2), .int sp], .int (301 + far), .int (24 + 2 * sp)] : List PyData) := ⟨fun i => ([.str "x", .int sp, .tuple [.int sp, .int (sp + 1)], .tuple [.str "odd", .tuple [.int sp]], .int (far - 500), .int (far - 7), .int (far - 9), .int far, .int (61 + sp), .tuple [.int (sp + 2), .int sp], .int (301 + far), .int (24 + 2 * sp)] : List PyData).getD i .none, rfl⟩
  have ff : Fi (dd 0) ∧ Fi (dd 1) ∧ Fi (dd 2) ∧ Fi (dd 3) ∧ Fi (dd 4) ∧ Fi (dd 5) ∧ Fi (dd 6) ∧ Fi (dd 7) ∧ Fi (dd 8) ∧ Fi (dd 9) ∧ Fi (dd 10) ∧ Fi (dd 11) := by
    simp only [List.cons.injEq] at hdd
    obtain ⟨q0, q1, q2, q3, q4, q5, q6, q7, q8, q9, q10, q11, _⟩ := hdd
    rw [q0, q1, q2, q3, q4, q5, q6, q7, q8, q9, q10, q11]
    refine ⟨?_, ?_, ?_, ?_, ?_, ?_, ?_, ?_, ?_, ?_, ?_, ?_⟩ <;> exact ⟨rfl, by simp only [PyData.depth, PyData.depthAll]; omega, by simp only [numD, numL]; omega⟩
  rw [← hdd] at D0
  clear hdd
  obtain ⟨fa, fb, fc, fd, fe, ff, fg, fh, fi, fj, fk, fl⟩ := ff
  refine ⟨_, rfl, l3, _, 0, _, rfl, rfl, SqL.of L0, rfl, ?_⟩
  refine mkx (dpAll_get (i := 0) D0 rfl) fa fun ma0 Wmx0 mu0 rm0 erm0 hum0 => ?_
  have S1 := S0.trans rm0
  have L1 := rm0 _ _ L0
  have D1 := same_dps rm0 D0
  have eLm0 : EL K Wmx0 [(ma0, C0, ("text" : Str), mu0, dd 0)] := EL.snoc (L := []) EL.nil erm0 hum0
  refine ⟨_, rfl, l3, _, 1, _, rfl, rfl, SqL.of L1, rfl, ?_⟩
  refine mkx (dpAll_get (i := 1) D1 rfl) fb fun ma1 Wmx1 mu1 rm1 erm1 hum1 => ?_
  have S2 := S1.trans rm1
  have L2 := rm1 _ _ L1
  have D2 := same_dps rm1 D1
  have el2 := eLm0.same rm1
  have eLm1 : EL K Wmx1 [(ma0, C0, ("text" : Str), mu0, dd 0), (ma1, C1, ("number" : Str), mu1, dd 1)] := EL.snoc (L := [(ma0, C0, ("text" : Str), mu0, dd 0)]) el2 erm1 hum1
  refine ⟨_, rfl, l3, _, 2, _, rfl, rfl, SqL.of L2, rfl, ?_⟩
  refine mkx (dpAll_get (i := 2) D2 rfl) fc fun ma2 Wmx2 mu2 rm2 erm2 hum2 => ?_
  have S3 := S2.trans rm2
  have L3 := rm2 _ _ L2
  have D3 := same_dps rm2 D2
  have el3 := eLm1.same rm2
  have eLm2 : EL K Wmx2 [(ma0, C0, ("text" : Str), mu0, dd 0), (ma1, C1, ("number" : Str), mu1, dd 1), (ma2, C2, ("pair" : Str), mu2, dd 2)] := EL.snoc (L := [(ma0, C0, ("text" : Str), mu0, dd 0), (ma1, C1, ("number" : Str), mu1, dd 1)]) el3 erm2 hum2
  refine ⟨_, rfl, l3, _, 3, _, rfl, rfl, SqL.of L3, rfl, ?_⟩
  refine mkx (dpAll_get (i := 3) D3 rfl) fd fun ma3 Wmx3 mu3 rm3 erm3 hum3 => ?_
  have S4 := S3.trans rm3
  have L4 := rm3 _ _ L3
  have D4 := same_dps rm3 D3
  have el4 := eLm2.same rm3
  have eLm3 : EL K Wmx3 [(ma0, C0, ("text" : Str), mu0, dd 0), (ma1, C1, ("number" : Str), mu1, dd 1), (ma2, C2, ("pair" : Str), mu2, dd 2), (ma3, C3, ("evidence" : Str), mu3, dd 3)] := EL.snoc (L := [(ma0, C0, ("text" : Str), mu0, dd 0), (ma1, C1, ("number" : Str), mu1, dd 1), (ma2, C2, ("pair" : Str), mu2, dd 2)]) el4 erm3 hum3
  refine ⟨_, rfl, l3, _, 4, _, rfl, rfl, SqL.of L4, rfl, ?_⟩
  refine mkx (dpAll_get (i := 4) D4 rfl) fe fun ma4 Wmx4 mu4 rm4 erm4 hum4 => ?_
  have S5 := S4.trans rm4
  have L5 := rm4 _ _ L4
  have D5 := same_dps rm4 D4
  have el5 := eLm3.same rm4
  have eLm4 : EL K Wmx4 [(ma0, C0, ("text" : Str), mu0, dd 0), (ma1, C1, ("number" : Str), mu1, dd 1), (ma2, C2, ("pair" : Str), mu2, dd 2), (ma3, C3, ("evidence" : Str), mu3, dd 3), (ma4, C4, ("person" : Str), mu4, dd 4)] := EL.snoc (L := [(ma0, C0, ("text" : Str), mu0, dd 0), (ma1, C1, ("number" : Str), mu1, dd 1), (ma2, C2, ("pair" : Str), mu2, dd 2), (ma3, C3, ("evidence" : Str), mu3, dd 3)]) el5 erm4 hum4
  refine ⟨(by show 5 ≤ sizeLine; decide), fun pm0 nm0 => ?_⟩
  have km0 : Same Wmx4 (upd Wmx4 pm0 (.lst [V.ref ma0, V.ref ma1, V.ref ma2, V.ref ma3, V.ref ma4])) := same_new nm0
  have gm0 : (upd Wmx4 pm0 (.lst [V.ref ma0, V.ref ma1, V.ref ma2, V.ref ma3, V.ref ma4])) pm0 = some (.lst [V.ref ma0, V.ref ma1, V.ref ma2, V.ref ma3, V.ref ma4]) := upd_same
  generalize upd Wmx4 pm0 (.lst [V.ref ma0, V.ref ma1, V.ref ma2, V.ref ma3, V.ref ma4]) = Xm0 at km0 gm0 ⊢
  have S6 := S5.trans km0
  have L6 := km0 _ _ L5
  have D6 := same_dps km0 D5
  have el6 := eLm4.same km0
  refine ⟨_, rfl, _, rfl, l3, _, 5, _, rfl, rfl, SqL.of L6, rfl, ?_⟩
  refine mkx (dpAll_get (i := 5) D6 rfl) ff fun ma5 Wmx5 mu5 rm5 erm5 hum5 => ?_
  have S7 := S6.trans rm5
  have L7 := rm5 _ _ L6
  have D7 := same_dps rm5 D6
  have el7 := el6.same rm5
  have ex7_0 := rm5 _ _ gm0
  have eLm5 : EL K Wmx5 [(ma0, C0, ("text" : Str), mu0, dd 0), (ma1, C1, ("number" : Str), mu1, dd 1), (ma2, C2, ("pair" : Str), mu2, dd 2), (ma3, C3, ("evidence" : Str), mu3, dd 3), (ma4, C4, ("person" : Str), mu4, dd 4), (ma5, C5, ("person" : Str), mu5, dd 5)] := EL.snoc (L := [(ma0, C0, ("text" : Str), mu0, dd 0), (ma1, C1, ("number" : Str), mu1, dd 1), (ma2, C2, ("pair" : Str), mu2, dd 2), (ma3, C3, ("evidence" : Str), mu3, dd 3), (ma4, C4, ("person" : Str), mu4, dd 4)]) el7 erm5 hum5
  refine ⟨_, rfl, l3, _, 6, _, rfl, rfl, SqL.of L7, rfl, ?_⟩
  refine mkx (dpAll_get (i := 6) D7 rfl) fg fun ma6 Wmx6 mu6 rm6 erm6 hum6 => ?_
  have S8 := S7.trans rm6
  have L8 := rm6 _ _ L7
  have D8 := same_dps rm6 D7
  have el8 := eLm5.same rm6
  have ex8_0 := rm6 _ _ ex7_0
  have eLm6 : EL K Wmx6 [(ma0, C0, ("text" : Str), mu0, dd 0), (ma1, C1, ("number" : Str), mu1, dd 1), (ma2, C2, ("pair" : Str), mu2, dd 2), (ma3, C3, ("evidence" : Str), mu3, dd 3), (ma4, C4, ("person" : Str), mu4, dd 4), (ma5, C5, ("person" : Str), mu5, dd 5), (ma6, C6, ("place" : Str), mu6, dd 6)] := EL.snoc (L := [(ma0, C0, ("text" : Str), mu0, dd 0), (ma1, C1, ("number" : Str), mu1, dd 1), (ma2, C2, ("pair" : Str), mu2, dd 2), (ma3, C3, ("evidence" : Str), mu3, dd 3), (ma4, C4, ("person" : Str), mu4, dd 4), (ma5, C5, ("person" : Str), mu5, dd 5)]) el8 erm6 hum6
  refine ⟨_, rfl, l3, _, 7, _, rfl, rfl, SqL.of L8, rfl, ?_⟩
  refine mkx (dpAll_get (i := 7) D8 rfl) fh fun ma7 Wmx7 mu7 rm7 erm7 hum7 => ?_
  have S9 := S8.trans rm7
  have L9 := rm7 _ _ L8
  have D9 := same_dps rm7 D8
  have el9 := eLm6.same rm7
  have ex9_0 := rm7 _ _ ex8_0
  have eLm7 : EL K Wmx7 [(ma0, C0, ("text" : Str), mu0, dd 0), (ma1, C1, ("number" : Str), mu1, dd 1), (ma2, C2, ("pair" : Str), mu2, dd 2), (ma3, C3, ("evidence" : Str), mu3, dd 3), (ma4, C4, ("person" : Str), mu4, dd 4), (ma5, C5, ("person" : Str), mu5, dd 5), (ma6, C6, ("place" : Str), mu6, dd 6), (ma7, C7, ("number" : Str), mu7, dd 7)] := EL.snoc (L := [(ma0, C0, ("text" : Str), mu0, dd 0), (ma1, C1, ("number" : Str), mu1, dd 1), (ma2, C2, ("pair" : Str), mu2, dd 2), (ma3, C3, ("evidence" : Str), mu3, dd 3), (ma4, C4, ("person" : Str), mu4, dd 4), (ma5, C5, ("person" : Str), mu5, dd 5), (ma6, C6, ("place" : Str), mu6, dd 6)]) el9 erm7 hum7
  refine ⟨_, rfl, l3, _, 8, _, rfl, rfl, SqL.of L9, rfl, ?_⟩
  refine mkx (dpAll_get (i := 8) D9 rfl) fi fun ma8 Wmx8 mu8 rm8 erm8 hum8 => ?_
  have S10 := S9.trans rm8
  have L10 := rm8 _ _ L9
  have D10 := same_dps rm8 D9
  have el10 := eLm7.same rm8
  have ex10_0 := rm8 _ _ ex9_0
  have eLm8 : EL K Wmx8 [(ma0, C0, ("text" : Str), mu0, dd 0), (ma1, C1, ("number" : Str), mu1, dd 1), (ma2, C2, ("pair" : Str), mu2, dd 2), (ma3, C3, ("evidence" : Str), mu3, dd 3), (ma4, C4, ("person" : Str), mu4, dd 4), (ma5, C5, ("person" : Str), mu5, dd 5), (ma6, C6, ("place" : Str), mu6, dd 6), (ma7, C7, ("number" : Str), mu7, dd 7), (ma8, C8, ("many" : Str), mu8, dd 8)] := EL.snoc (L := [(ma0, C0, ("text" : Str), mu0, dd 0), (ma1, C1, ("number" : Str), mu1, dd 1), (ma2, C2, ("pair" : Str), mu2, dd 2), (ma3, C3, ("evidence" : Str), mu3, dd 3), (ma4, C4, ("person" : Str), mu4, dd 4), (ma5, C5, ("person" : Str), mu5, dd 5), (ma6, C6, ("place" : Str), mu6, dd 6), (ma7, C7, ("number" : Str), mu7, dd 7)]) el10 erm8 hum8
  refine ⟨(by show 4 ≤ sizeLine; decide), fun pm1 nm1 => ?_⟩
  have km1 : Same Wmx8 (upd Wmx8 pm1 (.lst [V.ref ma5, V.ref ma6, V.ref ma7, V.ref ma8])) := same_new nm1
  have gm1 : (upd Wmx8 pm1 (.lst [V.ref ma5, V.ref ma6, V.ref ma7, V.ref ma8])) pm1 = some (.lst [V.ref ma5, V.ref ma6, V.ref ma7, V.ref ma8]) := upd_same
  generalize upd Wmx8 pm1 (.lst [V.ref ma5, V.ref ma6, V.ref ma7, V.ref ma8]) = Xm1 at km1 gm1 ⊢
  have S11 := S10.trans km1
  have L11 := km1 _ _ L10
  have D11 := same_dps km1 D10
  have el11 := eLm8.same km1
  have ex11_0 := km1 _ _ ex10_0
  refine ⟨_, _, _, _, rfl, rfl, ex11_0, gm1, (by show 9 ≤ sizeLine; decide), fun cm1 om1 => ?_⟩
  have kkm1 : Same Xm1 (upd Xm1 cm1 (.lst [V.ref ma0, V.ref ma1, V.ref ma2, V.ref ma3, V.ref ma4, V.ref ma5, V.ref ma6, V.ref ma7, V.ref ma8])) := same_new om1
  have ggm1 : (upd Xm1 cm1 (.lst [V.ref ma0, V.ref ma1, V.ref ma2, V.ref ma3, V.ref ma4, V.ref ma5, V.ref ma6, V.ref ma7, V.ref ma8])) cm1 = some (.lst [V.ref ma0, V.ref ma1, V.ref ma2, V.ref ma3, V.ref ma4, V.ref ma5, V.ref ma6, V.ref ma7, V.ref ma8]) := upd_same
  generalize hhm1 : upd Xm1 cm1 (.lst [V.ref ma0, V.ref ma1, V.ref ma2, V.ref ma3, V.ref ma4, V.ref ma5, V.ref ma6, V.ref ma7, V.ref ma8]) = Ym1 at kkm1 ggm1
  rw [show upd Xm1 cm1 (.lst ([V.ref ma0, V.ref ma1, V.ref ma2, V.ref ma3, V.ref ma4] ++ [V.ref ma5, V.ref ma6, V.ref ma7, V.ref ma8])) = Ym1 from hhm1]
  have S12 := S11.trans kkm1
  have L12 := kkm1 _ _ L11
  have D12 := same_dps kkm1 D11
  have el12 := el11.same kkm1
  have ex12_0 := kkm1 _ _ ex11_0
  refine ⟨_, rfl, _, rfl, l3, _, 9, _, rfl, rfl, SqL.of L12, rfl, ?_⟩
  refine mkx (dpAll_get (i := 9) D12 rfl) fj fun ma9 Wmx9 mu9 rm9 erm9 hum9 => ?_
  have S13 := S12.trans rm9
  have L13 := rm9 _ _ L12
  have D13 := same_dps rm9 D12
  have el13 := el12.same rm9
  have ex13_0 := rm9 _ _ ggm1
  have eLm9 : EL K Wmx9 [(ma0, C0, ("text" : Str), mu0, dd 0), (ma1, C1, ("number" : Str), mu1, dd 1), (ma2, C2, ("pair" : Str), mu2, dd 2), (ma3, C3, ("evidence" : Str), mu3, dd 3), (ma4, C4, ("person" : Str), mu4, dd 4), (ma5, C5, ("person" : Str), mu5, dd 5), (ma6, C6, ("place" : Str), mu6, dd 6), (ma7, C7, ("number" : Str), mu7, dd 7), (ma8, C8, ("many" : Str), mu8, dd 8), (ma9, C9, ("pair" : Str), mu9, dd 9)] := EL.snoc (L := [(ma0, C0, ("text" : Str), mu0, dd 0), (ma1, C1, ("number" : Str), mu1, dd 1), (ma2, C2, ("pair" : Str), mu2, dd 2), (ma3, C3, ("evidence" : Str), mu3, dd 3), (ma4, C4, ("person" : Str), mu4, dd 4), (ma5, C5, ("person" : Str), mu5, dd 5), (ma6, C6, ("place" : Str), mu6, dd 6), (ma7, C7, ("number" : Str), mu7, dd 7), (ma8, C8, ("many" : Str), mu8, dd 8)]) el13 erm9 hum9
  refine ⟨_, rfl, l3, _, 10, _, rfl, rfl, SqL.of L13, rfl, ?_⟩
  refine mkx (dpAll_get (i := 10) D13 rfl) fk fun ma10 Wmx10 mu10 rm10 erm10 hum10 => ?_
  have S14 := S13.trans rm10
  have L14 := rm10 _ _ L13
  have D14 := same_dps rm10 D13
  have el14 := eLm9.same rm10
  have ex14_0 := rm10 _ _ ex13_0
  have eLm10 : EL K Wmx10 [(ma0, C0, ("text" : Str), mu0, dd 0), (ma1, C1, ("number" : Str), mu1, dd 1), (ma2, C2, ("pair" : Str), mu2, dd 2), (ma3, C3, ("evidence" : Str), mu3, dd 3), (ma4, C4, ("person" : Str), mu4, dd 4), (ma5, C5, ("person" : Str), mu5, dd 5), (ma6, C6, ("place" : Str), mu6, dd 6), (ma7, C7, ("number" : Str), mu7, dd 7), (ma8, C8, ("many" : Str), mu8, dd 8), (ma9, C9, ("pair" : Str), mu9, dd 9), (ma10, C10, ("many" : Str), mu10, dd 10)] := EL.snoc (L := [(ma0, C0, ("text" : Str), mu0, dd 0), (ma1, C1, ("number" : Str), mu1, dd 1), (ma2, C2, ("pair" : Str), mu2, dd 2), (ma3, C3, ("evidence" : Str), mu3, dd 3), (ma4, C4, ("person" : Str), mu4, dd 4), (ma5, C5, ("person" : Str), mu5, dd 5), (ma6, C6, ("place" : Str), mu6, dd 6), (ma7, C7, ("number" : Str), mu7, dd 7), (ma8, C8, ("many" : Str), mu8, dd 8), (ma9, C9, ("pair" : Str), mu9, dd 9)]) el14 erm10 hum10
  refine ⟨_, rfl, l3, _, 11, _, rfl, rfl, SqL.of L14, rfl, ?_⟩
  refine mkx (dpAll_get (i := 11) D14 rfl) fl fun ma11 Wmx11 mu11 rm11 erm11 hum11 => ?_
  have S15 := S14.trans rm11
  have L15 := rm11 _ _ L14
  have D15 := same_dps rm11 D14
  have el15 := eLm10.same rm11
  have ex15_0 := rm11 _ _ ex14_0
  have eLm11 : EL K Wmx11 [(ma0, C0, ("text" : Str), mu0, dd 0), (ma1, C1, ("number" : Str), mu1, dd 1), (ma2, C2, ("pair" : Str), mu2, dd 2), (ma3, C3, ("evidence" : Str), mu3, dd 3), (ma4, C4, ("person" : Str), mu4, dd 4), (ma5, C5, ("person" : Str), mu5, dd 5), (ma6, C6, ("place" : Str), mu6, dd 6), (ma7, C7, ("number" : Str), mu7, dd 7), (ma8, C8, ("many" : Str), mu8, dd 8), (ma9, C9, ("pair" : Str), mu9, dd 9), (ma10, C10, ("many" : Str), mu10, dd 10), (ma11, C11, ("many" : Str), mu11, dd 11)] := EL.snoc (L := [(ma0, C0, ("text" : Str), mu0, dd 0), (ma1, C1, ("number" : Str), mu1, dd 1), (ma2, C2, ("pair" : Str), mu2, dd 2), (ma3, C3, ("evidence" : Str), mu3, dd 3), (ma4, C4, ("person" : Str), mu4, dd 4), (ma5, C5, ("person" : Str), mu5, dd 5), (ma6, C6, ("place" : Str), mu6, dd 6), (ma7, C7, ("number" : Str), mu7, dd 7), (ma8, C8, ("many" : Str), mu8, dd 8), (ma9, C9, ("pair" : Str), mu9, dd 9), (ma10, C10, ("many" : Str), mu10, dd 10)]) el15 erm11 hum11
  refine ⟨(by show 3 ≤ sizeLine; decide), fun pm2 nm2 => ?_⟩
  have km2 : Same Wmx11 (upd Wmx11 pm2 (.lst [V.ref ma9, V.ref ma10, V.ref ma11])) := same_new nm2
  have gm2 : (upd Wmx11 pm2 (.lst [V.ref ma9, V.ref ma10, V.ref ma11])) pm2 = some (.lst [V.ref ma9, V.ref ma10, V.ref ma11]) := upd_same
  generalize upd Wmx11 pm2 (.lst [V.ref ma9, V.ref ma10, V.ref ma11]) = Xm2 at km2 gm2 ⊢
  have S16 := S15.trans km2
  have L16 := km2 _ _ L15
  have D16 := same_dps km2 D15
  have el16 := eLm11.same km2
  have ex16_0 := km2 _ _ ex15_0
  refine ⟨_, _, _, _, rfl, rfl, ex16_0, gm2, (by show 12 ≤ sizeLine; decide), fun cm2 om2 => ?_⟩
  have kkm2 : Same Xm2 (upd Xm2 cm2 (.lst [V.ref ma0, V.ref ma1, V.ref ma2, V.ref ma3, V.ref ma4, V.ref ma5, V.ref ma6, V.ref ma7, V.ref ma8, V.ref ma9, V.ref ma10, V.ref ma11])) := same_new om2
  have ggm2 : (upd Xm2 cm2 (.lst [V.ref ma0, V.ref ma1, V.ref ma2, V.ref ma3, V.ref ma4, V.ref ma5, V.ref ma6, V.ref ma7, V.ref ma8, V.ref ma9, V.ref ma10, V.ref ma11])) cm2 = some (.lst [V.ref ma0, V.ref ma1, V.ref ma2, V.ref ma3, V.ref ma4, V.ref ma5, V.ref ma6, V.ref ma7, V.ref ma8, V.ref ma9, V.ref ma10, V.ref ma11]) := upd_same
  generalize hhm2 : upd Xm2 cm2 (.lst [V.ref ma0, V.ref ma1, V.ref ma2, V.ref ma3, V.ref ma4, V.ref ma5, V.ref ma6, V.ref ma7, V.ref ma8, V.ref ma9, V.ref ma10, V.ref ma11]) = Ym2 at kkm2 ggm2
  rw [show upd Xm2 cm2 (.lst ([V.ref ma0, V.ref ma1, V.ref ma2, V.ref ma3, V.ref ma4, V.ref ma5, V.ref ma6, V.ref ma7, V.ref ma8] ++ [V.ref ma9, V.ref ma10, V.ref ma11])) = Ym2 from hhm2]
  have S17 := S16.trans kkm2
  have L17 := kkm2 _ _ L16
  have D17 := same_dps kkm2 D16
  have el17 := el16.same kkm2
  have ex17_0 := kkm2 _ _ ex16_0
  have Fm : Full12 K C0 C1 C2 C3 C4 C5 C6 C7 C8 C9 C10 C11 dd cm2 Ym2 := ⟨_, _, _, _, _, _, _, _, _, _, _, _, _, _, _, _, _, _, _, _, _, _, _, _, ggm2, el17⟩
  refine ⟨_, rfl, l3, _, 0, _, rfl, rfl, SqL.of L17, rfl, ?_⟩
  refine mkx (dpAll_get (i := 0) D17 rfl) fa fun ka0 Wkx0 ku0 rk0 erk0 huk0 => ?_
  have S18 := S17.trans rk0
  have L18 := rk0 _ _ L17
  have D18 := same_dps rk0 D17
  have ex18_0 := Fm.same rk0
  have eLk0 : EL K Wkx0 [(ka0, C0, ("text" : Str), ku0, dd 0)] := EL.snoc (L := []) EL.nil erk0 huk0
  refine ⟨_, rfl, l3, _, 1, _, rfl, rfl, SqL.of L18, rfl, ?_⟩
  refine mkx (dpAll_get (i := 1) D18 rfl) fb fun ka1 Wkx1 ku1 rk1 erk1 huk1 => ?_
  have S19 := S18.trans rk1
  have L19 := rk1 _ _ L18
  have D19 := same_dps rk1 D18
  have el19 := eLk0.same rk1
  have ex19_0 := ex18_0.same rk1
  have eLk1 : EL K Wkx1 [(ka0, C0, ("text" : Str), ku0, dd 0), (ka1, C1, ("number" : Str), ku1, dd 1)] := EL.snoc (L := [(ka0, C0, ("text" : Str), ku0, dd 0)]) el19 erk1 huk1
  refine ⟨_, rfl, l3, _, 2, _, rfl, rfl, SqL.of L19, rfl, ?_⟩
  refine mkx (dpAll_get (i := 2) D19 rfl) fc fun ka2 Wkx2 ku2 rk2 erk2 huk2 => ?_
  have S20 := S19.trans rk2
  have L20 := rk2 _ _ L19
  have D20 := same_dps rk2 D19
  have el20 := eLk1.same rk2
  have ex20_0 := ex19_0.same rk2
  have eLk2 : EL K Wkx2 [(ka0, C0, ("text" : Str), ku0, dd 0), (ka1, C1, ("number" : Str), ku1, dd 1), (ka2, C2, ("pair" : Str), ku2, dd 2)] := EL.snoc (L := [(ka0, C0, ("text" : Str), ku0, dd 0), (ka1, C1, ("number" : Str), ku1, dd 1)]) el20 erk2 huk2
  refine ⟨(by show 3 ≤ sizeLine; decide), fun pk0 nk0 => ?_⟩
  have kk0 : Same Wkx2 (upd Wkx2 pk0 (.lst [V.ref ka0, V.ref ka1, V.ref ka2])) := same_new nk0
  have gk0 : (upd Wkx2 pk0 (.lst [V.ref ka0, V.ref ka1, V.ref ka2])) pk0 = some (.lst [V.ref ka0, V.ref ka1, V.ref ka2]) := upd_same
  generalize upd Wkx2 pk0 (.lst [V.ref ka0, V.ref ka1, V.ref ka2]) = Xk0 at kk0 gk0 ⊢
  have S21 := S20.trans kk0
  have L21 := kk0 _ _ L20
  have D21 := same_dps kk0 D20
  have el21 := eLk2.same kk0
  have ex21_0 := ex20_0.same kk0
  refine ⟨_, rfl, _, rfl, l3, _, 3, _, rfl, rfl, SqL.of L21, rfl, ?_⟩
  refine mkx (dpAll_get (i := 3) D21 rfl) fd fun ka3 Wkx3 ku3 rk3 erk3 huk3 => ?_
  have S22 := S21.trans rk3
  have L22 := rk3 _ _ L21
  have D22 := same_dps rk3 D21
  have el22 := el21.same rk3
  have ex22_0 := ex21_0.same rk3
  have ex22_1 := rk3 _ _ gk0
  have eLk3 : EL K Wkx3 [(ka0, C0, ("text" : Str), ku0, dd 0), (ka1, C1, ("number" : Str), ku1, dd 1), (ka2, C2, ("pair" : Str), ku2, dd 2), (ka3, C3, ("evidence" : Str), ku3, dd 3)] := EL.snoc (L := [(ka0, C0, ("text" : Str), ku0, dd 0), (ka1, C1, ("number" : Str), ku1, dd 1), (ka2, C2, ("pair" : Str), ku2, dd 2)]) el22 erk3 huk3
  refine ⟨_, rfl, l3, _, 4, _, rfl, rfl, SqL.of L22, rfl, ?_⟩
  refine mkx (dpAll_get (i := 4) D22 rfl) fe fun ka4 Wkx4 ku4 rk4 erk4 huk4 => ?_
  have S23 := S22.trans rk4
  have L23 := rk4 _ _ L22
  have D23 := same_dps rk4 D22
  have el23 := eLk3.same rk4
  have ex23_0 := ex22_0.same rk4
  have ex23_1 := rk4 _ _ ex22_1
  have eLk4 : EL K Wkx4 [(ka0, C0, ("text" : Str), ku0, dd 0), (ka1, C1, ("number" : Str), ku1, dd 1), (ka2, C2, ("pair" : Str), ku2, dd 2), (ka3, C3, ("evidence" : Str), ku3, dd 3), (ka4, C4, ("person" : Str), ku4, dd 4)] := EL.snoc (L := [(ka0, C0, ("text" : Str), ku0, dd 0), (ka1, C1, ("number" : Str), ku1, dd 1), (ka2, C2, ("pair" : Str), ku2, dd 2), (ka3, C3, ("evidence" : Str), ku3, dd 3)]) el23 erk4 huk4
  refine ⟨_, rfl, l3, _, 5, _, rfl, rfl, SqL.of L23, rfl, ?_⟩
  refine mkx (dpAll_get (i := 5) D23 rfl) ff fun ka5 Wkx5 ku5 rk5 erk5 huk5 => ?_
  have S24 := S23.trans rk5
  have L24 := rk5 _ _ L23
  have D24 := same_dps rk5 D23
  have el24 := eLk4.same rk5
  have ex24_0 := ex23_0.same rk5
  have ex24_1 := rk5 _ _ ex23_1
  have eLk5 : EL K Wkx5 [(ka0, C0, ("text" : Str), ku0, dd 0), (ka1, C1, ("number" : Str), ku1, dd 1), (ka2, C2, ("pair" : Str), ku2, dd 2), (ka3, C3, ("evidence" : Str), ku3, dd 3), (ka4, C4, ("person" : Str), ku4, dd 4), (ka5, C5, ("person" : Str), ku5, dd 5)] := EL.snoc (L := [(ka0, C0, ("text" : Str), ku0, dd 0), (ka1, C1, ("number" : Str), ku1, dd 1), (ka2, C2, ("pair" : Str), ku2, dd 2), (ka3, C3, ("evidence" : Str), ku3, dd 3), (ka4, C4, ("person" : Str), ku4, dd 4)]) el24 erk5 huk5
  refine ⟨(by show 3 ≤ sizeLine; decide), fun pk1 nk1 => ?_⟩
  have kk1 : Same Wkx5 (upd Wkx5 pk1 (.lst [V.ref ka3, V.ref ka4, V.ref ka5])) := same_new nk1
  have gk1 : (upd Wkx5 pk1 (.lst [V.ref ka3, V.ref ka4, V.ref ka5])) pk1 = some (.lst [V.ref ka3, V.ref ka4, V.ref ka5]) := upd_same
  generalize upd Wkx5 pk1 (.lst [V.ref ka3, V.ref ka4, V.ref ka5]) = Xk1 at kk1 gk1 ⊢
  have S25 := S24.trans kk1
  have L25 := kk1 _ _ L24
  have D25 := same_dps kk1 D24
  have el25 := eLk5.same kk1
  have ex25_0 := ex24_0.same kk1
  have ex25_1 := kk1 _ _ ex24_1
  refine ⟨_, _, _, _, rfl, rfl, ex25_1, gk1, (by show 6 ≤ sizeLine; decide), fun ck1 ok1 => ?_⟩
  have kkk1 : Same Xk1 (upd Xk1 ck1 (.lst [V.ref ka0, V.ref ka1, V.ref ka2, V.ref ka3, V.ref ka4, V.ref ka5])) := same_new ok1
  have ggk1 : (upd Xk1 ck1 (.lst [V.ref ka0, V.ref ka1, V.ref ka2, V.ref ka3, V.ref ka4, V.ref ka5])) ck1 = some (.lst [V.ref ka0, V.ref ka1, V.ref ka2, V.ref ka3, V.ref ka4, V.ref ka5]) := upd_same
  generalize hhk1 : upd Xk1 ck1 (.lst [V.ref ka0, V.ref ka1, V.ref ka2, V.ref ka3, V.ref ka4, V.ref ka5]) = Yk1 at kkk1 ggk1
  rw [show upd Xk1 ck1 (.lst ([V.ref ka0, V.ref ka1, V.ref ka2] ++ [V.ref ka3, V.ref ka4, V.ref ka5])) = Yk1 from hhk1]
  have S26 := S25.trans kkk1
  have L26 := kkk1 _ _ L25
  have D26 := same_dps kkk1 D25
  have el26 := el25.same kkk1
  have ex26_0 := ex25_0.same kkk1
  have ex26_1 := kkk1 _ _ ex25_1
  refine ⟨_, rfl, _, rfl, l3, _, 6, _, rfl, rfl, SqL.of L26, rfl, ?_⟩
  refine mkx (dpAll_get (i := 6) D26 rfl) fg fun ka6 Wkx6 ku6 rk6 erk6 huk6 => ?_
  have S27 := S26.trans rk6
  have L27 := rk6 _ _ L26
  have D27 := same_dps rk6 D26
  have el27 := el26.same rk6
  have ex27_0 := ex26_0.same rk6
  have ex27_1 := rk6 _ _ ggk1
  have eLk6 : EL K Wkx6 [(ka0, C0, ("text" : Str), ku0, dd 0), (ka1, C1, ("number" : Str), ku1, dd 1), (ka2, C2, ("pair" : Str), ku2, dd 2), (ka3, C3, ("evidence" : Str), ku3, dd 3), (ka4, C4, ("person" : Str), ku4, dd 4), (ka5, C5, ("person" : Str), ku5, dd 5), (ka6, C6, ("place" : Str), ku6, dd 6)] := EL.snoc (L := [(ka0, C0, ("text" : Str), ku0, dd 0), (ka1, C1, ("number" : Str), ku1, dd 1), (ka2, C2, ("pair" : Str), ku2, dd 2), (ka3, C3, ("evidence" : Str), ku3, dd 3), (ka4, C4, ("person" : Str), ku4, dd 4), (ka5, C5, ("person" : Str), ku5, dd 5)]) el27 erk6 huk6
  refine ⟨_, rfl, l3, _, 7, _, rfl, rfl, SqL.of L27, rfl, ?_⟩
  refine mkx (dpAll_get (i := 7) D27 rfl) fh fun ka7 Wkx7 ku7 rk7 erk7 huk7 => ?_
  have S28 := S27.trans rk7
  have L28 := rk7 _ _ L27
  have D28 := same_dps rk7 D27
  have el28 := eLk6.same rk7
  have ex28_0 := ex27_0.same rk7
  have ex28_1 := rk7 _ _ ex27_1
  have eLk7 : EL K Wkx7 [(ka0, C0, ("text" : Str), ku0, dd 0), (ka1, C1, ("number" : Str), ku1, dd 1), (ka2, C2, ("pair" : Str), ku2, dd 2), (ka3, C3, ("evidence" : Str), ku3, dd 3), (ka4, C4, ("person" : Str), ku4, dd 4), (ka5, C5, ("person" : Str), ku5, dd 5), (ka6, C6, ("place" : Str), ku6, dd 6), (ka7, C7, ("number" : Str), ku7, dd 7)] := EL.snoc (L := [(ka0, C0, ("text" : Str), ku0, dd 0), (ka1, C1, ("number" : Str), ku1, dd 1), (ka2, C2, ("pair" : Str), ku2, dd 2), (ka3, C3, ("evidence" : Str), ku3, dd 3), (ka4, C4, ("person" : Str), ku4, dd 4), (ka5, C5, ("person" : Str), ku5, dd 5), (ka6, C6, ("place" : Str), ku6, dd 6)]) el28 erk7 huk7
  refine ⟨_, rfl, l3, _, 8, _, rfl, rfl, SqL.of L28, rfl, ?_⟩
  refine mkx (dpAll_get (i := 8) D28 rfl) fi fun ka8 Wkx8 ku8 rk8 erk8 huk8 => ?_
  have S29 := S28.trans rk8
  have L29 := rk8 _ _ L28
  have D29 := same_dps rk8 D28
  have el29 := eLk7.same rk8
  have ex29_0 := ex28_0.same rk8
  have ex29_1 := rk8 _ _ ex28_1
  have eLk8 : EL K Wkx8 [(ka0, C0, ("text" : Str), ku0, dd 0), (ka1, C1, ("number" : Str), ku1, dd 1), (ka2, C2, ("pair" : Str), ku2, dd 2), (ka3, C3, ("evidence" : Str), ku3, dd 3), (ka4, C4, ("person" : Str), ku4, dd 4), (ka5, C5, ("person" : Str), ku5, dd 5), (ka6, C6, ("place" : Str), ku6, dd 6), (ka7, C7, ("number" : Str), ku7, dd 7), (ka8, C8, ("many" : Str), ku8, dd 8)] := EL.snoc (L := [(ka0, C0, ("text" : Str), ku0, dd 0), (ka1, C1, ("number" : Str), ku1, dd 1), (ka2, C2, ("pair" : Str), ku2, dd 2), (ka3, C3, ("evidence" : Str), ku3, dd 3), (ka4, C4, ("person" : Str), ku4, dd 4), (ka5, C5, ("person" : Str), ku5, dd 5), (ka6, C6, ("place" : Str), ku6, dd 6), (ka7, C7, ("number" : Str), ku7, dd 7)]) el29 erk8 huk8
  refine ⟨(by show 3 ≤ sizeLine; decide), fun pk2 nk2 => ?_⟩
  have kk2 : Same Wkx8 (upd Wkx8 pk2 (.lst [V.ref ka6, V.ref ka7, V.ref ka8])) := same_new nk2
  have gk2 : (upd Wkx8 pk2 (.lst [V.ref ka6, V.ref ka7, V.ref ka8])) pk2 = some (.lst [V.ref ka6, V.ref ka7, V.ref ka8]) := upd_same
  generalize upd Wkx8 pk2 (.lst [V.ref ka6, V.ref ka7, V.ref ka8]) = Xk2 at kk2 gk2 ⊢
  have S30 := S29.trans kk2
  have L30 := kk2 _ _ L29
  have D30 := same_dps kk2 D29
  have el30 := eLk8.same kk2
  have ex30_0 := ex29_0.same kk2
  have ex30_1 := kk2 _ _ ex29_1
  refine ⟨_, _, _, _, rfl, rfl, ex30_1, gk2, (by show 9 ≤ sizeLine; decide), fun ck2 ok2 => ?_⟩
  have kkk2 : Same Xk2 (upd Xk2 ck2 (.lst [V.ref ka0, V.ref ka1, V.ref ka2, V.ref ka3, V.ref ka4, V.ref ka5, V.ref ka6, V.ref ka7, V.ref ka8])) := same_new ok2
  have ggk2 : (upd Xk2 ck2 (.lst [V.ref ka0, V.ref ka1, V.ref ka2, V.ref ka3, V.ref ka4, V.ref ka5, V.ref ka6, V.ref ka7, V.ref ka8])) ck2 = some (.lst [V.ref ka0, V.ref ka1, V.ref ka2, V.ref ka3, V.ref ka4, V.ref ka5, V.ref ka6, V.ref ka7, V.ref ka8]) := upd_same
  generalize hhk2 : upd Xk2 ck2 (.lst [V.ref ka0, V.ref ka1, V.ref ka2, V.ref ka3, V.ref ka4, V.ref ka5, V.ref ka6, V.ref ka7, V.ref ka8]) = Yk2 at kkk2 ggk2
  rw [show upd Xk2 ck2 (.lst ([V.ref ka0, V.ref ka1, V.ref ka2, V.ref ka3, V.ref ka4, V.ref ka5] ++ [V.ref ka6, V.ref ka7, V.ref ka8])) = Yk2 from hhk2]
  have S31 := S30.trans kkk2
  have L31 := kkk2 _ _ L30
  have D31 := same_dps kkk2 D30
  have el31 := el30.same kkk2
  have ex31_0 := ex30_0.same kkk2
  have ex31_1 := kkk2 _ _ ex30_1
  refine ⟨_, rfl, _, rfl, l3, _, 9, _, rfl, rfl, SqL.of L31, rfl, ?_⟩
  refine mkx (dpAll_get (i := 9) D31 rfl) fj fun ka9 Wkx9 ku9 rk9 erk9 huk9 => ?_
  have S32 := S31.trans rk9
  have L32 := rk9 _ _ L31
  have D32 := same_dps rk9 D31
  have el32 := el31.same rk9
  have ex32_0 := ex31_0.same rk9
  have ex32_1 := rk9 _ _ ggk2
  have eLk9 : EL K Wkx9 [(ka0, C0, ("text" : Str), ku0, dd 0), (ka1, C1, ("number" : Str), ku1, dd 1), (ka2, C2, ("pair" : Str), ku2, dd 2), (ka3, C3, ("evidence" : Str), ku3, dd 3), (ka4, C4, ("person" : Str), ku4, dd 4), (ka5, C5, ("person" : Str), ku5, dd 5), (ka6, C6, ("place" : Str), ku6, dd 6), (ka7, C7, ("number" : Str), ku7, dd 7), (ka8, C8, ("many" : Str), ku8, dd 8), (ka9, C9, ("pair" : Str), ku9, dd 9)] := EL.snoc (L := [(ka0, C0, ("text" : Str), ku0, dd 0), (ka1, C1, ("number" : Str), ku1, dd 1), (ka2, C2, ("pair" : Str), ku2, dd 2), (ka3, C3, ("evidence" : Str), ku3, dd 3), (ka4, C4, ("person" : Str), ku4, dd 4), (ka5, C5, ("person" : Str), ku5, dd 5), (ka6, C6, ("place" : Str), ku6, dd 6), (ka7, C7, ("number" : Str), ku7, dd 7), (ka8, C8, ("many" : Str), ku8, dd 8)]) el32 erk9 huk9
  refine ⟨_, rfl, l3, _, 10, _, rfl, rfl, SqL.of L32, rfl, ?_⟩
  refine mkx (dpAll_get (i := 10) D32 rfl) fk fun ka10 Wkx10 ku10 rk10 erk10 huk10 => ?_
  have S33 := S32.trans rk10
  have L33 := rk10 _ _ L32
  have D33 := same_dps rk10 D32
  have el33 := eLk9.same rk10
  have ex33_0 := ex32_0.same rk10
  have ex33_1 := rk10 _ _ ex32_1
  have eLk10 : EL K Wkx10 [(ka0, C0, ("text" : Str), ku0, dd 0), (ka1, C1, ("number" : Str), ku1, dd 1), (ka2, C2, ("pair" : Str), ku2, dd 2), (ka3, C3, ("evidence" : Str), ku3, dd 3), (ka4, C4, ("person" : Str), ku4, dd 4), (ka5, C5, ("person" : Str), ku5, dd 5), (ka6, C6, ("place" : Str), ku6, dd 6), (ka7, C7, ("number" : Str), ku7, dd 7), (ka8, C8, ("many" : Str), ku8, dd 8), (ka9, C9, ("pair" : Str), ku9, dd 9), (ka10, C10, ("many" : Str), ku10, dd 10)] := EL.snoc (L := [(ka0, C0, ("text" : Str), ku0, dd 0), (ka1, C1, ("number" : Str), ku1, dd 1), (ka2, C2, ("pair" : Str), ku2, dd 2), (ka3, C3, ("evidence" : Str), ku3, dd 3), (ka4, C4, ("person" : Str), ku4, dd 4), (ka5, C5, ("person" : Str), ku5, dd 5), (ka6, C6, ("place" : Str), ku6, dd 6), (ka7, C7, ("number" : Str), ku7, dd 7), (ka8, C8, ("many" : Str), ku8, dd 8), (ka9, C9, ("pair" : Str), ku9, dd 9)]) el33 erk10 huk10
  refine ⟨_, rfl, l3, _, 11, _, rfl, rfl, SqL.of L33, rfl, ?_⟩
  refine mkx (dpAll_get (i := 11) D33 rfl) fl fun ka11 Wkx11 ku11 rk11 erk11 huk11 => ?_
  have S34 := S33.trans rk11
  have L34 := rk11 _ _ L33
  have D34 := same_dps rk11 D33
  have el34 := eLk10.same rk11
  have ex34_0 := ex33_0.same rk11
  have ex34_1 := rk11 _ _ ex33_1
  have eLk11 : EL K Wkx11 [(ka0, C0, ("text" : Str), ku0, dd 0), (ka1, C1, ("number" : Str), ku1, dd 1), (ka2, C2, ("pair" : Str), ku2, dd 2), (ka3, C3, ("evidence" : Str), ku3, dd 3), (ka4, C4, ("person" : Str), ku4, dd 4), (ka5, C5, ("person" : Str), ku5, dd 5), (ka6, C6, ("place" : Str), ku6, dd 6), (ka7, C7, ("number" : Str), ku7, dd 7), (ka8, C8, ("many" : Str), ku8, dd 8), (ka9, C9, ("pair" : Str), ku9, dd 9), (ka10, C10, ("many" : Str), ku10, dd 10), (ka11, C11, ("many" : Str), ku11, dd 11)] := EL.snoc (L := [(ka0, C0, ("text" : Str), ku0, dd 0), (ka1, C1, ("number" : Str), ku1, dd 1), (ka2, C2, ("pair" : Str), ku2, dd 2), (ka3, C3, ("evidence" : Str), ku3, dd 3), (ka4, C4, ("person" : Str), ku4, dd 4), (ka5, C5, ("person" : Str), ku5, dd 5), (ka6, C6, ("place" : Str), ku6, dd 6), (ka7, C7, ("number" : Str), ku7, dd 7), (ka8, C8, ("many" : Str), ku8, dd 8), (ka9, C9, ("pair" : Str), ku9, dd 9), (ka10, C10, ("many" : Str), ku10, dd 10)]) el34 erk11 huk11
  refine ⟨(by show 3 ≤ sizeLine; decide), fun pk3 nk3 => ?_⟩
  have kk3 : Same Wkx11 (upd Wkx11 pk3 (.lst [V.ref ka9, V.ref ka10, V.ref ka11])) := same_new nk3
  have gk3 : (upd Wkx11 pk3 (.lst [V.ref ka9, V.ref ka10, V.ref ka11])) pk3 = some (.lst [V.ref ka9, V.ref ka10, V.ref ka11]) := upd_same
  generalize upd Wkx11 pk3 (.lst [V.ref ka9, V.ref ka10, V.ref ka11]) = Xk3 at kk3 gk3 ⊢
  have S35 := S34.trans kk3
  have L35 := kk3 _ _ L34
  have D35 := same_dps kk3 D34
  have el35 := eLk11.same kk3
  have ex35_0 := ex34_0.same kk3
  have ex35_1 := kk3 _ _ ex34_1
  refine ⟨_, _, _, _, rfl, rfl, ex35_1, gk3, (by show 12 ≤ sizeLine; decide), fun ck3 ok3 => ?_⟩
  have kkk3 : Same Xk3 (upd Xk3 ck3 (.lst [V.ref ka0, V.ref ka1, V.ref ka2, V.ref ka3, V.ref ka4, V.ref ka5, V.ref ka6, V.ref ka7, V.ref ka8, V.ref ka9, V.ref ka10, V.ref ka11])) := same_new ok3
  have ggk3 : (upd Xk3 ck3 (.lst [V.ref ka0, V.ref ka1, V.ref ka2, V.ref ka3, V.ref ka4, V.ref ka5, V.ref ka6, V.ref ka7, V.ref ka8, V.ref ka9, V.ref ka10, V.ref ka11])) ck3 = some (.lst [V.ref ka0, V.ref ka1, V.ref ka2, V.ref ka3, V.ref ka4, V.ref ka5, V.ref ka6, V.ref ka7, V.ref ka8, V.ref ka9, V.ref ka10, V.ref ka11]) := upd_same
  generalize hhk3 : upd Xk3 ck3 (.lst [V.ref ka0, V.ref ka1, V.ref ka2, V.ref ka3, V.ref ka4, V.ref ka5, V.ref ka6, V.ref ka7, V.ref ka8, V.ref ka9, V.ref ka10, V.ref ka11]) = Yk3 at kkk3 ggk3
  rw [show upd Xk3 ck3 (.lst ([V.ref ka0, V.ref ka1, V.ref ka2, V.ref ka3, V.ref ka4, V.ref ka5, V.ref ka6, V.ref ka7, V.ref ka8] ++ [V.ref ka9, V.ref ka10, V.ref ka11])) = Yk3 from hhk3]
  have S36 := S35.trans kkk3
  have L36 := kkk3 _ _ L35
  have D36 := same_dps kkk3 D35
  have el36 := el35.same kkk3
  have ex36_0 := ex35_0.same kkk3
  have ex36_1 := kkk3 _ _ ex35_1
  have Fk : Full12 K C0 C1 C2 C3 C4 C5 C6 C7 C8 C9 C10 C11 dd ck3 Yk3 := ⟨_, _, _, _, _, _, _, _, _, _, _, _, _, _, _, _, _, _, _, _, _, _, _, _, ggk3, el36⟩
  have hdone := True.intro
  refine ⟨_, rfl, _, rfl, (by show 2 ≤ sizeLine; decide), fun tt nt => ⟨tt, rfl, ⟨_, SqT.of upd_same⟩, ?_⟩⟩
  refine for_it (walk_tup (K := K) (a := tt) (xs := [.ref cm2, .ref ck3])) (fun i σ G => (∃ y6 y7 y8, σ = [some (.ref b), some (.int sp), some (.int far), some (.ref l3), some (.ref cm2), some (.ref ck3), y6, y7, y8, none, none]) ∧ Same Yk3 G ∧ SqT K G tt [.ref cm2, .ref ck3]) ⟨⟨none, none, none, rfl⟩, same_new nt, SqT.of upd_same⟩ (fun _ _ _ _ p => p.2.2) (fun i x σ G G' hi p y => ?_) (fun σ G p => ?_)
  · obtain ⟨⟨y6, y7, y8, rfl⟩, sG, hT⟩ := p
    obtain ⟨rfl, hx⟩ := y
    have LG := sG _ _ L36
    have DG := same_dps sG D36
    have hF : ∃ p, x = .ref p ∧ Full12 K C0 C1 C2 C3 C4 C5 C6 C7 C8 C9 C10 C11 dd p G' := by
      match i, hx with
      | 0, hx => exact ⟨_, (Option.some.inj hx).symm, ex36_0.same sG⟩
      | 1, hx => exact ⟨_, (Option.some.inj hx).symm, Fk.same sG⟩
      | i + 2, hx => cases hx
    obtain ⟨p, rfl, a0, a1, a2, a3, a4, a5, a6, a7, a8, a9, a10, a11, u0, u1, u2, u3, u4, u5, u6, u7, u8, u9, u10, u11, hp, el⟩ := hF
    clear hx
    refine ⟨_, rfl, p, _, 0, _, rfl, rfl, SqL.of hp, rfl, a0, C0, _, u0, rfl, M0.r.ex, M0.no, (el 0 _ rfl).1, lk1 _ _, _, rfl, p, _, 1, _, rfl, rfl, SqL.of hp, rfl, a1, C1, _, u1, rfl, M1.r.ex, M1.no, (el 1 _ rfl).1, lk1 _ _, _, rfl, p, _, 2, _, rfl, rfl, SqL.of hp, rfl, a2, C2, _, u2, rfl, M2.r.ex, M2.no, (el 2 _ rfl).1, lk1 _ _, _, rfl, p, _, 3, _, rfl, rfl, SqL.of hp, rfl, a3, C3, _, u3, rfl, M3.r.ex, M3.no, (el 3 _ rfl).1, lk1 _ _, _, rfl, p, _, 4, _, rfl, rfl, SqL.of hp, rfl, a4, C4, _, u4, rfl, M4.r.ex, M4.no, (el 4 _ rfl).1, lk1 _ _, _, rfl, p, _, 5, _, rfl, rfl, SqL.of hp, rfl, a5, C5, _, u5, rfl, M5.r.ex, M5.no, (el 5 _ rfl).1, lk1 _ _, (by show 6 ≤ sizeLine; decide), fun q1 o1 => ?_⟩
    have w1 : Same G' (upd G' q1 (.lst [u0, u1, u2, u3, u4, u5])) := same_new o1
    have b1 : (upd G' q1 (.lst [u0, u1, u2, u3, u4, u5])) q1 = some (.lst [u0, u1, u2, u3, u4, u5]) := upd_same
    generalize upd G' q1 (.lst [u0, u1, u2, u3, u4, u5]) = N1 at w1 b1 ⊢
    have hp1 := w1 _ _ hp
    have el1 := el.same w1
    refine ⟨_, rfl, _, rfl, p, _, 6, _, rfl, rfl, SqL.of hp1, rfl, a6, C6, _, u6, rfl, M6.r.ex, M6.no, (el1 6 _ rfl).1, lk1 _ _, _, rfl, p, _, 7, _, rfl, rfl, SqL.of hp1, rfl, a7, C7, _, u7, rfl, M7.r.ex, M7.no, (el1 7 _ rfl).1, lk1 _ _, _, rfl, p, _, 8, _, rfl, rfl, SqL.of hp1, rfl, a8, C8, _, u8, rfl, M8.r.ex, M8.no, (el1 8 _ rfl).1, lk1 _ _, _, rfl, p, _, 9, _, rfl, rfl, SqL.of hp1, rfl, a9, C9, _, u9, rfl, M9.r.ex, M9.no, (el1 9 _ rfl).1, lk1 _ _, _, rfl, p, _, 10, _, rfl, rfl, SqL.of hp1, rfl, a10, C10, _, u10, rfl, M10.r.ex, M10.no, (el1 10 _ rfl).1, lk1 _ _, (by show 5 ≤ sizeLine; decide), fun q2 o2 => ?_⟩
    refine ⟨_, _, _, _, rfl, rfl, same_new o2 _ _ b1, upd_same, (by show 11 ≤ sizeLine; decide), fun q3 o3 => ?_⟩
    have w3 : Same N1 (upd (upd N1 q2 (.lst [u6, u7, u8, u9, u10])) q3 (.lst [u0, u1, u2, u3, u4, u5, u6, u7, u8, u9, u10])) := (same_new o2).trans (same_new o3)
    have b3 : (upd (upd N1 q2 (.lst [u6, u7, u8, u9, u10])) q3 (.lst [u0, u1, u2, u3, u4, u5, u6, u7, u8, u9, u10])) q3 = some (.lst [u0, u1, u2, u3, u4, u5, u6, u7, u8, u9, u10]) := upd_same
    generalize hN3 : upd (upd N1 q2 (.lst [u6, u7, u8, u9, u10])) q3 (.lst [u0, u1, u2, u3, u4, u5, u6, u7, u8, u9, u10]) = N3 at w3 b3
    rw [show upd (upd N1 q2 (.lst [u6, u7, u8, u9, u10])) q3 (.lst ([u0, u1, u2, u3, u4, u5] ++ [u6, u7, u8, u9, u10])) = N3 from hN3]
    have hp3 := w3 _ _ hp1
    have el3 := el1.same w3
    refine ⟨_, rfl, _, rfl, p, _, 11, _, rfl, rfl, SqL.of hp3, rfl, a11, C11, _, u11, rfl, M11.r.ex, M11.no, (el3 11 _ rfl).1, lk1 _ _, (by show 1 ≤ sizeLine; decide), fun q4 o4 => ?_⟩
    refine ⟨_, _, _, _, rfl, rfl, same_new o4 _ _ b3, upd_same, (by show 12 ≤ sizeLine; decide), fun q5 o5 => ?_⟩
    have w5 : Same N3 (upd (upd N3 q4 (.lst [u11])) q5 (.lst [u0, u1, u2, u3, u4, u5, u6, u7, u8, u9, u10, u11])) := (same_new o4).trans (same_new o5)
    have b5 : (upd (upd N3 q4 (.lst [u11])) q5 (.lst [u0, u1, u2, u3, u4, u5, u6, u7, u8, u9, u10, u11])) q5 = some (.lst [u0, u1, u2, u3, u4, u5, u6, u7, u8, u9, u10, u11]) := upd_same
    generalize hN5 : upd (upd N3 q4 (.lst [u11])) q5 (.lst [u0, u1, u2, u3, u4, u5, u6, u7, u8, u9, u10, u11]) = N5 at w5 b5
    rw [show upd (upd N3 q4 (.lst [u11])) q5 (.lst ([u0, u1, u2, u3, u4, u5, u6, u7, u8, u9, u10] ++ [u11])) = N5 from hN5]
    have w := w1.trans (w3.trans w5)
    have el5 := el.same w
    have du : DpAll K N5 [u0, u1, u2, u3, u4, u5, u6, u7, u8, u9, u10, u11] [dd 0, dd 1, dd 2, dd 3, dd 4, dd 5, dd 6, dd 7, dd 8, dd 9, dd 10, dd 11] := (.cons (el5 0 _ rfl).2 (.cons (el5 1 _ rfl).2 (.cons (el5 2 _ rfl).2 (.cons (el5 3 _ rfl).2 (.cons (el5 4 _ rfl).2 (.cons (el5 5 _ rfl).2 (.cons (el5 6 _ rfl).2 (.cons (el5 7 _ rfl).2 (.cons (el5 8 _ rfl).2 (.cons (el5 9 _ rfl).2 (.cons (el5 10 _ rfl).2 (.cons (el5 11 _ rfl).2 DpAll.nil))))))))))))
    refine ⟨_, rfl, _, _, .list [dd 0, dd 1, dd 2, dd 3, dd 4, dd 5, dd 6, dd 7, dd 8, dd 9, dd 10, dd 11], rfl, .lst (SqL.of b5) du, .lst (SqL.of (w _ _ LG)) (same_dps w DG), ?_, ?_, fun N6 w6 => ⟨_, rfl, iteF ?_⟩⟩
    · simp only [PyData.depth, PyData.depthAll]
      have z : ∀ d, Fi d → d.depth < 4 := fun d h => h.2.1
      have z0 := z _ fa
      have z1 := z _ fb
      have z2 := z _ fc
      have z3 := z _ fd
      have z4 := z _ fe
      have z5 := z _ ff
      have z6 := z _ fg
      have z7 := z _ fh
      have z8 := z _ fi
      have z9 := z _ fj
      have z10 := z _ fk
      have z11 := z _ fl
      omega
    · simp only [numD, numL]
      have z : ∀ d, Fi d → numD d ≤ 1000 := fun d h => h.2.2
      have z0 := z _ fa
      have z1 := z _ fb
      have z2 := z _ fc
      have z3 := z _ fd
      have z4 := z _ fe
      have z5 := z _ ff
      have z6 := z _ fg
      have z7 := z _ fh
      have z8 := z _ fi
      have z9 := z _ fj
      have z10 := z _ fk
      have z11 := z _ fl
      omega
    have w' := w.trans w6
    refine kinds_rd fun pk N7 w7 b7 => ?_
    have hp7 := w7 _ _ (w' _ _ hp)
    have el7 := el.same (w'.trans w7)
    have sG7 := sG.trans (w'.trans w7)
    have hT7 := same_tup (w'.trans w7) hT
    have hR : ∀ i, i < 12 → ∃ (a C : Addr) (fs : List (Str × V)) (n : Nat), ([V.ref a0, V.ref a1, V.ref a2, V.ref a3, V.ref a4, V.ref a5, V.ref a6, V.ref a7, V.ref a8, V.ref a9, V.ref a10, V.ref a11] : List V)[i]? = some (.ref a) ∧ kindsV[i]? = some (.int (n : Nat)) ∧ ErAt N7 a C fs ∧ Rk K D C n := by
      intro i hi
      match i, hi with
      | 0, _ => exact ⟨_, _, _, 0, rfl, rfl, (el7 0 _ rfl).1, M0.r⟩
      | 1, _ => exact ⟨_, _, _, 0, rfl, rfl, (el7 1 _ rfl).1, M1.r⟩
      | 2, _ => exact ⟨_, _, _, 0, rfl, rfl, (el7 2 _ rfl).1, M2.r⟩
      | 3, _ => exact ⟨_, _, _, 0, rfl, rfl, (el7 3 _ rfl).1, M3.r⟩
      | 4, _ => exact ⟨_, _, _, 1, rfl, rfl, (el7 4 _ rfl).1, M4.r⟩
      | 5, _ => exact ⟨_, _, _, 1, rfl, rfl, (el7 5 _ rfl).1, M5.r⟩
      | 6, _ => exact ⟨_, _, _, 1, rfl, rfl, (el7 6 _ rfl).1, M6.r⟩
      | 7, _ => exact ⟨_, _, _, 1, rfl, rfl, (el7 7 _ rfl).1, M7.r⟩
      | 8, _ => exact ⟨_, _, _, 1, rfl, rfl, (el7 8 _ rfl).1, M8.r⟩
      | 9, _ => exact ⟨_, _, _, 2, rfl, rfl, (el7 9 _ rfl).1, M9.r⟩
      | 10, _ => exact ⟨_, _, _, 3, rfl, rfl, (el7 10 _ rfl).1, M10.r⟩
      | 11, _ => exact ⟨_, _, _, 3, rfl, rfl, (el7 11 _ rfl).1, M11.r⟩
      | i + 12, hi => omega
    refine ⟨_, rfl, _, rfl, p, pk, _, _, rfl, .inl ⟨SqL.of hp7, SqL.of b7, fun Z nZ => ?_⟩⟩
    refine lc_it (walk_zip (n := 12) rfl) (fun j N => Same N7 N ∧ N Z = some (.lst ((List.replicate j true).map V.bl))) ⟨same_new nZ, upd_same⟩ (fun j N _ p => ⟨SqL.of (p.1 _ _ hp7), SqL.of (p.1 _ _ b7)⟩) (fun j x N N' hj p y => ?_) (fun N p => ?_)
    · obtain ⟨sN, hZ⟩ := p
      obtain ⟨T, x1, x2, rfl, nT, rfl, e1, e2⟩ := y
      obtain ⟨a, C, fs, n4, g1, g2, er, rk⟩ := hR j hj
      obtain rfl : x1 = .ref a := Option.some.inj (e1.symm.trans g1)
      obtain rfl : x2 = .int (n4 : Nat) := Option.some.inj (e2.symm.trans g2)
      have sN2 := sN.trans (same_new (o := .tup [.ref a, .int (n4 : Nat)]) nT)
      have hZ2 : (upd N T (.tup [.ref a, .int (n4 : Nat)])) Z = some (.lst ((List.replicate j true).map V.bl)) := same_new nT _ _ hZ
      refine ⟨T, _, rfl, SqT.of upd_same, rfl, _, _, rfl, _, _, rfl, rfl, rfl, _, rfl, _, rfl, a, C, fs, n4, rfl, er.same sN2, rk, fun N3' sm3 => ⟨_, sm3 Z _ hZ2, ?_, ?_, ?_⟩⟩
      · rw [List.length_map, List.length_replicate]; exact small1000 (by omega)
      · exact same_grow nZ (sN2.trans sm3)
      · rw [upd_same, List.replicate_succ', List.map_append]; rfl
    · obtain ⟨sN, hZ⟩ := p
      refine ⟨Z, _, rfl, SqL.of hZ, ?_⟩
      rw [all_true]
      exact ⟨_, rfl, iteF ⟨⟨_, _, _, rfl⟩, sG7.trans sN, same_tup sN hT7⟩⟩
  · obtain ⟨_, sG, _⟩ := p
    refine ⟨(by show 0 ≤ 1000; decide), fun a na => ⟨a, rfl, upd_same, rfl, ?_⟩⟩
    refine ⟨a, CO, [], 0, rfl, .inl ⟨rfl, upd_same⟩, RO, fun N sN => ?_⟩
    refine ⟨_, rfl, iteT ⟨rfl, ?_⟩⟩
    exact q _ (ap.trans (ap_same ((S36.trans sG).trans ((same_new na).trans sN)))) (hB2.same ((S36.trans sG).trans ((same_new na).trans sN)))
end
end K15

set_option Elab.async false
set_option linter.all false
set_option maxRecDepth 100000
set_option maxHeartbeats 4000000
namespace K15
open PySem PySem.Spec PyProof.Rows L2 Hs
section
variable {P : Program} {w : World} {K : PySem.W.Frag} {mg : Str → Option Value} {base : Heap} {f : Addr} {fd : FuncData}
def spLaw (K : PySem.W.Frag) : Sp := fun vs H Q _ => ∃ (a : Addr) (ns : List Int), vs = [.ref a] ∧ SqL K H a (ns.map V.int) ∧ ns.length ≤ 63 ∧ ∀ G, Q (.bl true) G
abbrev lawN : List Str := ["_law_script", "_law_k", "_law_box_here", "_law_turn"]
theorem scLaw : FnScope lawN ["_law_script"] (defScope sLaw) := ⟨rfl, rfl, rfl, by decide +kernel, rfl, by decide +kernel, by decide +kernel⟩
theorem ok_law {k : Nat} {fB fR : Addr} {dB dR : FuncData} (F : Fun K "law" "law" sLaw f fd) (B : B0 mg) (Bo : Fx P w K mg base k "_law_box" ["_law_script", "_law_k"] (spBox K) fB dB)
    (R : FnOk P w K mg base CX0 k fR dR ["_law_box_here"] (spRight K)) (mR : mg "_law_right" = some (.ref fR)) (kR : PySem.W.keepIn K (.ref fR) = true) (bR : Binds K dR ["_law_box_here"] []) :
    FnOk P w K mg base CX0 (k + 1) f fd ["_law_script"] (spLaw K) := by
  refine F.ok scLaw (fun vs H Q E h => ?_) (fun cdv A outer s H vs Q E hr h => ?_)
  · obtain ⟨a, ns, rfl, _⟩ := h; rfl
  obtain ⟨a, ns, rfl, hS, hn, q⟩ := h
  refine ⟨_, pss_cons (ps_for PassesOwn.never rfl (pi_range1 (by rfl) B.range (pa_cons (pe_op op_add pe_int (pe_callB (call_min2 rfl) (by rfl) B.min PyProof.Rows.boot_min (pa_cons pe_int (pa_cons (pe_callB call_len_seq (by rfl) B.len PySem.boot_len (pa_cons (pv 0) pa_nil)) pa_nil)))) pa_nil)) (pg_name (i := 1) scLaw.nd rfl (.inl rfl))
      (pss_cons (ps_set (i := 2) scLaw.nd rfl (.inr rfl) (pe_call Bo.ok hr (by rfl) Bo.m Bo.k Bo.b .nil pass0 (pa_cons (pv 0) (pa_cons (pv 1) pa_nil))))
      (pss_one (ps_if (pt_not (pt_val (pe_callB (cr_all rfl) (by rfl) B.all PyProof.Rows.boot_all (pa_cons (pe_lc (own := [("_law_turn", 3)]) (g := gName 3) (tt := tYes) (te := tCall (spRight K) [] E0 (tCons (tVar 2) tNil)) (by rfl) scLaw.nd (pi_range1 (by rfl) B.range (pa_cons pe_int pa_nil))
        (blkOk_by (N := lawN) (sc := defScope sLaw) (by decide +kernel)) (fun _ _ _ _ _ => pg_name (i := 3) scLaw.nd rfl (Or.inl rfl)) (fun _ _ _ _ _ => pts_nil) (fun _ _ _ _ _ => pe_call R hr (by rfl) mR kR bR .nil pass0 (pa_cons (pv 2) pa_nil))) pa_nil)))) (pss_one (ps_ret pe_bl)) pss_nil))))
    (pss_one (ps_ret pe_bl)), ?_⟩
  refine ⟨_, rfl, a, _, rfl, .inl hS, _, _, rfl, _, _, rfl, rfl, _, rfl, ?_, ?_, ?_⟩
  · have z : (0 : Int) ≤ (if ((((ns.map V.int).length : Nat) : Int)) < 3 then (((ns.map V.int).length : Nat) : Int) else 3) := by split <;> omega
    show -(2 ^ 62) ≤ (1 : Int) + _; omega
  · have z : (if ((((ns.map V.int).length : Nat) : Int)) < 3 then (((ns.map V.int).length : Nat) : Int) else 3) ≤ 3 := by split <;> omega
    show (1 : Int) + _ < 2 ^ 62; omega
  refine for_it (walk_range (lo := 0)) (fun i σ G => (∃ y1 y2, σ = [some (.ref a), y1, y2, none]) ∧ SqL K G a (ns.map V.int)) ⟨⟨none, none, rfl⟩, hS⟩ (fun _ _ _ _ _ => trivial) (fun i x σ G G' hi p y => ?_) (fun σ G p => q G)
  obtain ⟨⟨y1, y2, rfl⟩, hSG⟩ := p
  obtain ⟨rfl, rfl⟩ := y
  refine ⟨_, rfl, _, rfl, a, ns, _, rfl, hSG, (by show (0 : Int) ≤ 0 + (i : Int); omega), fun b x y nb hx => ?_⟩
  have hSb : SqL K (hid (upd G' b (.lst [.int x, .int y, .int 0])) b) a (ns.map V.int) := by rw [hid_upd, hid_id nb]; exact hSG
  have hB : BoxAt (upd G' b (.lst [.int x, .int y, .int 0])) b 1000 := ⟨x, y, 0, upd_same, hx, Int.le_refl 0, by decide⟩
  generalize upd G' b (.lst [.int x, .int y, .int 0]) = G1 at hSb hB
  refine ⟨1, rfl, by decide, by decide, fun D nD => ?_⟩
  have nDb : D ≠ b := box_ne hB nD
  refine lc_it (walk_range (lo := 0) (n := 1)) (fun j J => Ap b G1 J ∧ BoxAt J b (1000 - 200 * j) ∧ J D = some (.lst ((List.replicate j true).map V.bl))) ⟨ap_same (same_new nD), box_up hB nDb, upd_same⟩ (fun _ _ _ _ => trivial) (fun j x J J' hj p y => ?_) (fun J p => ?_)
  · obtain ⟨ap, hBJ, hD⟩ := p
    obtain ⟨rfl, rfl⟩ := y
    refine ⟨rfl, _, rfl, b, 1000 - 200 * (j + 1), rfl, hBJ.mono (by omega), fun J2 ap2 hB2 => ?_⟩
    have hD2 := ap_get ap2 hD nDb
    refine ⟨_, hD2, ?_, ap_up (ap.trans ap2) nD, box_up hB2 nDb, ?_⟩
    · rw [List.length_map, List.length_replicate]; exact small1000 (by omega)
    · rw [upd_same, List.replicate_succ', List.map_append]; rfl
  · obtain ⟨ap, hBJ, hD⟩ := p
    refine ⟨D, _, rfl, SqL.of hD, _, rfl, iteF ⟨⟨_, _, rfl⟩, (hid_same J b).seq (Same.seq ap hSb)⟩⟩
end
end K15

set_option Elab.async false
set_option linter.all false
set_option maxRecDepth 100000
set_option maxHeartbeats 4000000
namespace K15
open PySem PySem.Spec PyProof.Rows L2 Hs

def kitsL (K : PySem.W.Frag) (ds : List Addr) (C : Addr) : List (Option Bool) := ds.map fun D => PySem.W.kitOne K (.ref C) (.ref D)
def rkB (K : PySem.W.Frag) (ds : List Addr) (C : Addr) (n : Nat) : Bool := (kitsL K ds C).all (·.isSome) && (decide ((kitsL K ds C).count (some true) = 1) && (decide ([PySem.W.kitOne K (.ref C) (.type "ValueError"), PySem.W.kitOne K (.ref C) (.type "LookupError"), PySem.W.kitOne K (.ref C) (.type "RuntimeError"), PySem.W.kitOne K (.ref C) (.type "OverflowError")] = (([false, false, false, false] : List Bool).set n true).map some) && (decide (n < 4) && decide (PySem.W.kitAny K (.ref C) [.type "IndexError", .type "KeyError", .type "NotImplementedError"] = some false))))
theorem some_count : ∀ l : List (Option Bool), l.all (·.isSome) = true → (l.map (·.getD false)).count true = l.count (some true)
  | [], _ => rfl
  | none :: l, h => by cases h
  | some b :: l, h => by
    have z := some_count l (by simpa using h)
    rw [List.map_cons, List.count_cons, List.count_cons, z]
    cases b <;> rfl
theorem rk_of {K : PySem.W.Frag} {ds : List Addr} {C : Addr} {n : Nat} (hl : ds.length = 13) (T : EX K C) (h : rkB K ds C n = true) : Rk K (fun i => ds.getD i 0) C n := by
  obtain ⟨h1, h⟩ := Bool.and_eq_true_iff.mp h
  obtain ⟨h2, h⟩ := Bool.and_eq_true_iff.mp h
  obtain ⟨h3, h⟩ := Bool.and_eq_true_iff.mp h
  obtain ⟨h4, h5⟩ := Bool.and_eq_true_iff.mp h
  have c := of_decide_eq_true h2
  rw [← some_count _ h1] at c
  have l4 := of_decide_eq_true h4
  have kd := of_decide_eq_true h3
  refine ⟨T, ⟨fun i => (PySem.W.kitOne K (.ref C) (.ref (ds.getD i 0))).getD false, fun i hi => ?_, ?_⟩, ?_, l4, of_decide_eq_true h5⟩
  · have m : PySem.W.kitOne K (.ref C) (.ref (ds.getD i 0)) ∈ kitsL K ds C := by
      have e : ds.getD i 0 = ds[i]'(by omega) := by rw [List.getD_eq_getElem?_getD, List.getElem?_eq_getElem (by omega)]; rfl
      rw [e]
      exact List.mem_map_of_mem (List.getElem_mem _)
    have z := List.all_eq_true.mp h1 _ m
    show PySem.W.kitOne K (.ref C) (.ref (ds.getD i 0)) = some ((PySem.W.kitOne K (.ref C) (.ref (ds.getD i 0))).getD false)
    cases e : PySem.W.kitOne K (.ref C) (.ref (ds.getD i 0)) with
    | none => rw [e] at z; cases z
    | some b => rfl
  · match ds, hl with
    | [_, _, _, _, _, _, _, _, _, _, _, _, _], _ => exact c
  · match n, l4 with
    | 0, _ => simp only [List.set, List.map, List.cons.injEq] at kd; exact ⟨_, _, _, _, kd.1, kd.2.1, kd.2.2.1, kd.2.2.2.1, rfl⟩
    | 1, _ => simp only [List.set, List.map, List.cons.injEq] at kd; exact ⟨_, _, _, _, kd.1, kd.2.1, kd.2.2.1, kd.2.2.2.1, rfl⟩
    | 2, _ => simp only [List.set, List.map, List.cons.injEq] at kd; exact ⟨_, _, _, _, kd.1, kd.2.1, kd.2.2.1, kd.2.2.2.1, rfl⟩
    | 3, _ => simp only [List.set, List.map, List.cons.injEq] at kd; exact ⟨_, _, _, _, kd.1, kd.2.1, kd.2.2.1, kd.2.2.2.1, rfl⟩
theorem kb_of {K : PySem.W.Frag} {qual : Str} {st : Stmt} {f : Addr} {fd : FuncData} {p : Str} (F : Fun K "__init__" qual st f fd)
    (h : ∀ (kV doc pm : Value) (an : Option Addr) (cdv ct a u : Value), bindArgs (PySem.W.fnOf "__init__" qual (defArgs st) (defBody st) (defScope st) .none kV doc pm an cdv ct) ⟨[a], [(p, u)]⟩ = pure [(("self" : Str), a), (p, u)]) : ∀ (t : Shared) (a u : Value), BindsTo t fd ⟨[a], [(p, u)]⟩ [("self", a), (p, u)] := by
  obtain ⟨oc, od, kV, doc, pm, an, cdv, ct, osl, rfl, lk, hcd⟩ := F.ex
  exact fun t a u => .of_eq (h kV doc pm an cdv ct a u)
theorem all_mk {l : PySem.W.OpenLaw} {w : World} {K : PySem.W.Frag} {h : Heap} {mg : Str → Option Value} {fa f1 f2 f3 f4 f5 f6 f7 f8 f9 C0 C1 C2 C3 C4 C5 C6 C7 C8 C9 C10 C11 C12 g0 g1 g2 g3 g4 g5 g6 g7 g8 g9 g10 g11 g12 : Addr} (X : K.In h) (G : h.Ns mainGlobals mg) (hfa : mg "law" = some (.ref fa))
    {od1 an1 od2 an2 od3 an3 od4 an4 od5 an5 od6 an6 od7 an7 od8 an8 od9 an9 odc0 anc0 odc1 anc1 odc2 anc2 odc3 anc3 odc4 anc4 odc5 anc5 odc6 anc6 odc7 anc7 odc8 anc8 odc9 anc9 odc10 anc10 odc11 anc11 odc12 anc12 : Option Addr} {sl1 sl2 sl3 sl4 sl5 sl6 sl7 sl8 sl9 slc0 slc1 slc2 slc3 slc4 slc5 slc6 slc7 slc8 slc9 slc10 slc11 slc12 : Array (Option Value)} {oc1 kV1 dc1 pm1 cd1 ct1 oc2 kV2 dc2 pm2 cd2 ct2 oc3 kV3 dc3 pm3 cd3 ct3 oc4 kV4 dc4 pm4 cd4 ct4 oc5 kV5 dc5 pm5 cd5 ct5 oc6 kV6 dc6 pm6 cd6 ct6 oc7 kV7 dc7 pm7 cd7 ct7 oc8 kV8 dc8 pm8 cd8 ct8 oc9 kV9 dc9 pm9 cd9 ct9 occ0 kVc0 dcc0 pmc0 cdc0 ctc0 occ1 kVc1 dcc1 pmc1 cdc1 ctc1 occ2 kVc2 dcc2 pmc2 cdc2 ctc2 occ3 kVc3 dcc3 pmc3 cdc3 ctc3 occ4 kVc4 dcc4 pmc4 cdc4 ctc4 occ5 kVc5 dcc5 pmc5 cdc5 ctc5 occ6 kVc6 dcc6 pmc6 cdc6 ctc6 occ7 kVc7 dcc7 pmc7 cdc7 ctc7 occ8 kVc8 dcc8 pmc8 cdc8 ctc8 occ9 kVc9 dcc9 pmc9 cdc9 ctc9 occ10 kVc10 dcc10 pmc10 cdc10 ctc10 occ11 kVc11 dcc11 pmc11 cdc11 ctc11 occ12 kVc12 dcc12 pmc12 cdc12 ctc12 : Value}
    (a1 : PySem.W.nsIn K mainGlobals "copied" = some (some (.ref f1)))
    (l1 : K.lookup f1 = some ⟨oc1, od1, .func (PySem.W.fnOf "copied" "copied" (defArgs sCopied) (defBody sCopied) (defScope sCopied) .none kV1 dc1 pm1 an1 cd1 ct1), sl1⟩)
    (c1 : PySem.W.codeIn K cd1 "copied" = true)
    (k1 : PySem.W.keepIn K (.ref f1) = true)
    (a2 : PySem.W.nsIn K mainGlobals "_law_cell_at" = some (some (.ref f2)))
    (l2 : K.lookup f2 = some ⟨oc2, od2, .func (PySem.W.fnOf "_law_cell_at" "_law_cell_at" (defArgs sCellAt) (defBody sCellAt) (defScope sCellAt) .none kV2 dc2 pm2 an2 cd2 ct2), sl2⟩)
    (c2 : PySem.W.codeIn K cd2 "_law_cell_at" = true)
    (k2 : PySem.W.keepIn K (.ref f2) = true)
    (a3 : PySem.W.nsIn K mainGlobals "_law_box" = some (some (.ref f3)))
    (l3 : K.lookup f3 = some ⟨oc3, od3, .func (PySem.W.fnOf "_law_box" "_law_box" (defArgs sBox) (defBody sBox) (defScope sBox) .none kV3 dc3 pm3 an3 cd3 ct3), sl3⟩)
    (c3 : PySem.W.codeIn K cd3 "_law_box" = true)
    (k3 : PySem.W.keepIn K (.ref f3) = true)
    (a4 : PySem.W.nsIn K mainGlobals "_law_take" = some (some (.ref f4)))
    (l4 : K.lookup f4 = some ⟨oc4, od4, .func (PySem.W.fnOf "_law_take" "_law_take" (defArgs sTake) (defBody sTake) (defScope sTake) .none kV4 dc4 pm4 an4 cd4 ct4), sl4⟩)
    (c4 : PySem.W.codeIn K cd4 "_law_take" = true)
    (k4 : PySem.W.keepIn K (.ref f4) = true)
    (a5 : PySem.W.nsIn K mainGlobals "_law_same" = some (some (.ref f5)))
    (l5 : K.lookup f5 = some ⟨oc5, od5, .func (PySem.W.fnOf "_law_same" "_law_same" (defArgs sSame) (defBody sSame) (defScope sSame) .none kV5 dc5 pm5 an5 cd5 ct5), sl5⟩)
    (c5 : PySem.W.codeIn K cd5 "_law_same" = true)
    (k5 : PySem.W.keepIn K (.ref f5) = true)
    (a6 : PySem.W.nsIn K mainGlobals "_law_flags" = some (some (.ref f6)))
    (l6 : K.lookup f6 = some ⟨oc6, od6, .func (PySem.W.fnOf "_law_flags" "_law_flags" (defArgs sFlags) (defBody sFlags) (defScope sFlags) .none kV6 dc6 pm6 an6 cd6 ct6), sl6⟩)
    (c6 : PySem.W.codeIn K cd6 "_law_flags" = true)
    (k6 : PySem.W.keepIn K (.ref f6) = true)
    (a7 : PySem.W.nsIn K mainGlobals "_law_one_right" = some (some (.ref f7)))
    (l7 : K.lookup f7 = some ⟨oc7, od7, .func (PySem.W.fnOf "_law_one_right" "_law_one_right" (defArgs sOneRight) (defBody sOneRight) (defScope sOneRight) .none kV7 dc7 pm7 an7 cd7 ct7), sl7⟩)
    (c7 : PySem.W.codeIn K cd7 "_law_one_right" = true)
    (k7 : PySem.W.keepIn K (.ref f7) = true)
    (a8 : PySem.W.nsIn K mainGlobals "_law_right" = some (some (.ref f8)))
    (l8 : K.lookup f8 = some ⟨oc8, od8, .func (PySem.W.fnOf "_law_right" "_law_right" (defArgs sRight) (defBody sRight) (defScope sRight) .none kV8 dc8 pm8 an8 cd8 ct8), sl8⟩)
    (c8 : PySem.W.codeIn K cd8 "_law_right" = true)
    (k8 : PySem.W.keepIn K (.ref f8) = true)
    (a9 : PySem.W.nsIn K mainGlobals "law" = some (some (.ref f9)))
    (l9 : K.lookup f9 = some ⟨oc9, od9, .func (PySem.W.fnOf "law" "law" (defArgs sLaw) (defBody sLaw) (defScope sLaw) .none kV9 dc9 pm9 an9 cd9 ct9), sl9⟩)
    (c9 : PySem.W.codeIn K cd9 "law" = true)
    (k9 : PySem.W.keepIn K (.ref f9) = true)
    (aC0 : PySem.W.nsIn K mainGlobals "BadText" = some (some (.ref C0)))
    (aC1 : PySem.W.nsIn K mainGlobals "BadLine" = some (some (.ref C1)))
    (aC2 : PySem.W.nsIn K mainGlobals "Unfit" = some (some (.ref C2)))
    (aC3 : PySem.W.nsIn K mainGlobals "Impossible" = some (some (.ref C3)))
    (aC4 : PySem.W.nsIn K mainGlobals "NoPerson" = some (some (.ref C4)))
    (aC5 : PySem.W.nsIn K mainGlobals "NoArm" = some (some (.ref C5)))
    (aC6 : PySem.W.nsIn K mainGlobals "NoPlace" = some (some (.ref C6)))
    (aC7 : PySem.W.nsIn K mainGlobals "NoNumber" = some (some (.ref C7)))
    (aC8 : PySem.W.nsIn K mainGlobals "NoOperation" = some (some (.ref C8)))
    (aC9 : PySem.W.nsIn K mainGlobals "Blocked" = some (some (.ref C9)))
    (aC10 : PySem.W.nsIn K mainGlobals "TooMany" = some (some (.ref C10)))
    (aC11 : PySem.W.nsIn K mainGlobals "Full" = some (some (.ref C11)))
    (aC12 : PySem.W.nsIn K mainGlobals "OtherPeople" = some (some (.ref C12)))
    (iC0 : PySem.W.findIn K (.ref C0) "__init__" = some (some (.ref g0)))
    (lC0 : K.lookup g0 = some ⟨occ0, odc0, .func (PySem.W.fnOf "__init__" "BadText.__init__" (defArgs sBadText) (defBody sBadText) (defScope sBadText) .none kVc0 dcc0 pmc0 anc0 cdc0 ctc0), slc0⟩)
    (cC0 : PySem.W.codeIn K cdc0 "BadText.__init__" = true)
    (kC0 : PySem.W.keepIn K (.ref g0) = true)
    (tC0 : PySem.W.typeIn K (.ref g0) = some (.type "function"))
    (nC0 : PySem.W.findIn K (.ref C0) "text" = some none)
    (xC0 : exB K C0 [.type "ValueError", .type "Exception", .type "BaseException", .type "object"] "ValueError.__new__" = true)
    (rC0 : rkB K [C1, C0, C9, C11, C3, C5, C7, C8, C4, C6, C12, C10, C2] C0 0 = true)
    (iC1 : PySem.W.findIn K (.ref C1) "__init__" = some (some (.ref g1)))
    (lC1 : K.lookup g1 = some ⟨occ1, odc1, .func (PySem.W.fnOf "__init__" "BadLine.__init__" (defArgs sBadLine) (defBody sBadLine) (defScope sBadLine) .none kVc1 dcc1 pmc1 anc1 cdc1 ctc1), slc1⟩)
    (cC1 : PySem.W.codeIn K cdc1 "BadLine.__init__" = true)
    (kC1 : PySem.W.keepIn K (.ref g1) = true)
    (tC1 : PySem.W.typeIn K (.ref g1) = some (.type "function"))
    (nC1 : PySem.W.findIn K (.ref C1) "number" = some none)
    (xC1 : exB K C1 [.type "ValueError", .type "Exception", .type "BaseException", .type "object"] "ValueError.__new__" = true)
    (rC1 : rkB K [C1, C0, C9, C11, C3, C5, C7, C8, C4, C6, C12, C10, C2] C1 0 = true)
    (iC2 : PySem.W.findIn K (.ref C2) "__init__" = some (some (.ref g2)))
    (lC2 : K.lookup g2 = some ⟨occ2, odc2, .func (PySem.W.fnOf "__init__" "Unfit.__init__" (defArgs sUnfit) (defBody sUnfit) (defScope sUnfit) .none kVc2 dcc2 pmc2 anc2 cdc2 ctc2), slc2⟩)
    (cC2 : PySem.W.codeIn K cdc2 "Unfit.__init__" = true)
    (kC2 : PySem.W.keepIn K (.ref g2) = true)
    (tC2 : PySem.W.typeIn K (.ref g2) = some (.type "function"))
    (nC2 : PySem.W.findIn K (.ref C2) "pair" = some none)
    (xC2 : exB K C2 [.type "ValueError", .type "Exception", .type "BaseException", .type "object"] "ValueError.__new__" = true)
    (rC2 : rkB K [C1, C0, C9, C11, C3, C5, C7, C8, C4, C6, C12, C10, C2] C2 0 = true)
    (iC3 : PySem.W.findIn K (.ref C3) "__init__" = some (some (.ref g3)))
    (lC3 : K.lookup g3 = some ⟨occ3, odc3, .func (PySem.W.fnOf "__init__" "Impossible.__init__" (defArgs sImpossible) (defBody sImpossible) (defScope sImpossible) .none kVc3 dcc3 pmc3 anc3 cdc3 ctc3), slc3⟩)
    (cC3 : PySem.W.codeIn K cdc3 "Impossible.__init__" = true)
    (kC3 : PySem.W.keepIn K (.ref g3) = true)
    (tC3 : PySem.W.typeIn K (.ref g3) = some (.type "function"))
    (nC3 : PySem.W.findIn K (.ref C3) "evidence" = some none)
    (xC3 : exB K C3 [.type "ValueError", .type "Exception", .type "BaseException", .type "object"] "ValueError.__new__" = true)
    (rC3 : rkB K [C1, C0, C9, C11, C3, C5, C7, C8, C4, C6, C12, C10, C2] C3 0 = true)
    (iC4 : PySem.W.findIn K (.ref C4) "__init__" = some (some (.ref g4)))
    (lC4 : K.lookup g4 = some ⟨occ4, odc4, .func (PySem.W.fnOf "__init__" "NoPerson.__init__" (defArgs sNoPerson) (defBody sNoPerson) (defScope sNoPerson) .none kVc4 dcc4 pmc4 anc4 cdc4 ctc4), slc4⟩)
    (cC4 : PySem.W.codeIn K cdc4 "NoPerson.__init__" = true)
    (kC4 : PySem.W.keepIn K (.ref g4) = true)
    (tC4 : PySem.W.typeIn K (.ref g4) = some (.type "function"))
    (nC4 : PySem.W.findIn K (.ref C4) "person" = some none)
    (xC4 : exB K C4 [.type "LookupError", .type "Exception", .type "BaseException", .type "object"] "LookupError.__new__" = true)
    (rC4 : rkB K [C1, C0, C9, C11, C3, C5, C7, C8, C4, C6, C12, C10, C2] C4 1 = true)
    (iC5 : PySem.W.findIn K (.ref C5) "__init__" = some (some (.ref g5)))
    (lC5 : K.lookup g5 = some ⟨occ5, odc5, .func (PySem.W.fnOf "__init__" "NoArm.__init__" (defArgs sNoArm) (defBody sNoArm) (defScope sNoArm) .none kVc5 dcc5 pmc5 anc5 cdc5 ctc5), slc5⟩)
    (cC5 : PySem.W.codeIn K cdc5 "NoArm.__init__" = true)
    (kC5 : PySem.W.keepIn K (.ref g5) = true)
    (tC5 : PySem.W.typeIn K (.ref g5) = some (.type "function"))
    (nC5 : PySem.W.findIn K (.ref C5) "person" = some none)
    (xC5 : exB K C5 [.type "LookupError", .type "Exception", .type "BaseException", .type "object"] "LookupError.__new__" = true)
    (rC5 : rkB K [C1, C0, C9, C11, C3, C5, C7, C8, C4, C6, C12, C10, C2] C5 1 = true)
    (iC6 : PySem.W.findIn K (.ref C6) "__init__" = some (some (.ref g6)))
    (lC6 : K.lookup g6 = some ⟨occ6, odc6, .func (PySem.W.fnOf "__init__" "NoPlace.__init__" (defArgs sNoPlace) (defBody sNoPlace) (defScope sNoPlace) .none kVc6 dcc6 pmc6 anc6 cdc6 ctc6), slc6⟩)
    (cC6 : PySem.W.codeIn K cdc6 "NoPlace.__init__" = true)
    (kC6 : PySem.W.keepIn K (.ref g6) = true)
    (tC6 : PySem.W.typeIn K (.ref g6) = some (.type "function"))
    (nC6 : PySem.W.findIn K (.ref C6) "place" = some none)
    (xC6 : exB K C6 [.type "LookupError", .type "Exception", .type "BaseException", .type "object"] "LookupError.__new__" = true)
    (rC6 : rkB K [C1, C0, C9, C11, C3, C5, C7, C8, C4, C6, C12, C10, C2] C6 1 = true)
    (iC7 : PySem.W.findIn K (.ref C7) "__init__" = some (some (.ref g7)))
    (lC7 : K.lookup g7 = some ⟨occ7, odc7, .func (PySem.W.fnOf "__init__" "NoNumber.__init__" (defArgs sNoNumber) (defBody sNoNumber) (defScope sNoNumber) .none kVc7 dcc7 pmc7 anc7 cdc7 ctc7), slc7⟩)
    (cC7 : PySem.W.codeIn K cdc7 "NoNumber.__init__" = true)
    (kC7 : PySem.W.keepIn K (.ref g7) = true)
    (tC7 : PySem.W.typeIn K (.ref g7) = some (.type "function"))
    (nC7 : PySem.W.findIn K (.ref C7) "number" = some none)
    (xC7 : exB K C7 [.type "LookupError", .type "Exception", .type "BaseException", .type "object"] "LookupError.__new__" = true)
    (rC7 : rkB K [C1, C0, C9, C11, C3, C5, C7, C8, C4, C6, C12, C10, C2] C7 1 = true)
    (iC8 : PySem.W.findIn K (.ref C8) "__init__" = some (some (.ref g8)))
    (lC8 : K.lookup g8 = some ⟨occ8, odc8, .func (PySem.W.fnOf "__init__" "NoOperation.__init__" (defArgs sNoOperation) (defBody sNoOperation) (defScope sNoOperation) .none kVc8 dcc8 pmc8 anc8 cdc8 ctc8), slc8⟩)
    (cC8 : PySem.W.codeIn K cdc8 "NoOperation.__init__" = true)
    (kC8 : PySem.W.keepIn K (.ref g8) = true)
    (tC8 : PySem.W.typeIn K (.ref g8) = some (.type "function"))
    (nC8 : PySem.W.findIn K (.ref C8) "many" = some none)
    (xC8 : exB K C8 [.type "LookupError", .type "Exception", .type "BaseException", .type "object"] "LookupError.__new__" = true)
    (rC8 : rkB K [C1, C0, C9, C11, C3, C5, C7, C8, C4, C6, C12, C10, C2] C8 1 = true)
    (iC9 : PySem.W.findIn K (.ref C9) "__init__" = some (some (.ref g9)))
    (lC9 : K.lookup g9 = some ⟨occ9, odc9, .func (PySem.W.fnOf "__init__" "Blocked.__init__" (defArgs sBlocked) (defBody sBlocked) (defScope sBlocked) .none kVc9 dcc9 pmc9 anc9 cdc9 ctc9), slc9⟩)
    (cC9 : PySem.W.codeIn K cdc9 "Blocked.__init__" = true)
    (kC9 : PySem.W.keepIn K (.ref g9) = true)
    (tC9 : PySem.W.typeIn K (.ref g9) = some (.type "function"))
    (nC9 : PySem.W.findIn K (.ref C9) "pair" = some none)
    (xC9 : exB K C9 [.type "RuntimeError", .type "Exception", .type "BaseException", .type "object"] "RuntimeError.__new__" = true)
    (rC9 : rkB K [C1, C0, C9, C11, C3, C5, C7, C8, C4, C6, C12, C10, C2] C9 2 = true)
    (iC10 : PySem.W.findIn K (.ref C10) "__init__" = some (some (.ref g10)))
    (lC10 : K.lookup g10 = some ⟨occ10, odc10, .func (PySem.W.fnOf "__init__" "TooMany.__init__" (defArgs sTooMany) (defBody sTooMany) (defScope sTooMany) .none kVc10 dcc10 pmc10 anc10 cdc10 ctc10), slc10⟩)
    (cC10 : PySem.W.codeIn K cdc10 "TooMany.__init__" = true)
    (kC10 : PySem.W.keepIn K (.ref g10) = true)
    (tC10 : PySem.W.typeIn K (.ref g10) = some (.type "function"))
    (nC10 : PySem.W.findIn K (.ref C10) "many" = some none)
    (xC10 : exB K C10 [.type "OverflowError", .type "ArithmeticError", .type "Exception", .type "BaseException", .type "object"] "OverflowError.__new__" = true)
    (rC10 : rkB K [C1, C0, C9, C11, C3, C5, C7, C8, C4, C6, C12, C10, C2] C10 3 = true)
    (iC11 : PySem.W.findIn K (.ref C11) "__init__" = some (some (.ref g11)))
    (lC11 : K.lookup g11 = some ⟨occ11, odc11, .func (PySem.W.fnOf "__init__" "Full.__init__" (defArgs sFull) (defBody sFull) (defScope sFull) .none kVc11 dcc11 pmc11 anc11 cdc11 ctc11), slc11⟩)
    (cC11 : PySem.W.codeIn K cdc11 "Full.__init__" = true)
    (kC11 : PySem.W.keepIn K (.ref g11) = true)
    (tC11 : PySem.W.typeIn K (.ref g11) = some (.type "function"))
    (nC11 : PySem.W.findIn K (.ref C11) "many" = some none)
    (xC11 : exB K C11 [.type "OverflowError", .type "ArithmeticError", .type "Exception", .type "BaseException", .type "object"] "OverflowError.__new__" = true)
    (rC11 : rkB K [C1, C0, C9, C11, C3, C5, C7, C8, C4, C6, C12, C10, C2] C11 3 = true)
    (iC12 : PySem.W.findIn K (.ref C12) "__init__" = some (some (.ref g12)))
    (lC12 : K.lookup g12 = some ⟨occ12, odc12, .func (PySem.W.fnOf "__init__" "OtherPeople.__init__" (defArgs sOtherPeople) (defBody sOtherPeople) (defScope sOtherPeople) .none kVc12 dcc12 pmc12 anc12 cdc12 ctc12), slc12⟩)
    (cC12 : PySem.W.codeIn K cdc12 "OtherPeople.__init__" = true)
    (kC12 : PySem.W.keepIn K (.ref g12) = true)
    (tC12 : PySem.W.typeIn K (.ref g12) = some (.type "function"))
    (xC12 : exB K C12 [.type "ValueError", .type "Exception", .type "BaseException", .type "object"] "ValueError.__new__" = true)
    (rC12 : rkB K [C1, C0, C9, C11, C3, C5, C7, C8, C4, C6, C12, C10, C2] C12 0 = true)
    {oNm oQn : Str} {oN : Addr} {oBs oBm : List Value} {oSn : List Str} {oSub : List Value} {oAb : Bool} {oCol : Option Bool} {oDd : Option Addr} {o0 o1 o2 o3 o5 : Option Value}
    (oC : K.lookup C12 = some (excClassObj oNm oQn C12 oN oBs oBm true oSn oSub oAb oCol oDd o0 o1 o2 o3 o5 "ValueError.__new__"))
    (oR : PySem.HandSPX.refsVE oBm = true)
    (oV : PySem.W.findCls K (.type "ValueError") (.type "type") "__init__" = some (.val (.builtin "ValueError.__init__")))
    {tm : Tok}
    (hMo : PySem.W.nsIn K mainGlobals "MOST" = some (some (.int 300 tm)))
    (z1 : PySem.W.nsIn K mainGlobals "isinstance" = some none)
    (z2 : PySem.W.nsIn K mainGlobals "int" = some none)
    (z3 : PySem.W.nsIn K mainGlobals "bool" = some none)
    (z4 : PySem.W.nsIn K mainGlobals "list" = some none)
    (z5 : PySem.W.nsIn K mainGlobals "tuple" = some none)
    (z6 : PySem.W.nsIn K mainGlobals "len" = some none)
    (z7 : PySem.W.nsIn K mainGlobals "enumerate" = some none)
    (z8 : PySem.W.nsIn K mainGlobals "abs" = some none)
    (z9 : PySem.W.nsIn K mainGlobals "zip" = some none)
    (z10 : PySem.W.nsIn K mainGlobals "all" = some none)
    (z11 : PySem.W.nsIn K mainGlobals "range" = some none)
    (z12 : PySem.W.nsIn K mainGlobals "min" = some none)
    (z13 : PySem.W.nsIn K mainGlobals "str" = some none)
    (z14 : PySem.W.nsIn K mainGlobals "ValueError" = some none)
    (z15 : PySem.W.nsIn K mainGlobals "LookupError" = some none)
    (z16 : PySem.W.nsIn K mainGlobals "RuntimeError" = some none)
    (z17 : PySem.W.nsIn K mainGlobals "OverflowError" = some none)
    (z18 : PySem.W.nsIn K mainGlobals "IndexError" = some none)
    (z19 : PySem.W.nsIn K mainGlobals "KeyError" = some none)
    (z20 : PySem.W.nsIn K mainGlobals "NotImplementedError" = some none) :
    ∃ fd : FuncData, (∀ (s : Shared) (v : Value), BindsTo s fd ⟨[v], []⟩ [("_law_script", v)]) ∧ ∀ base : Heap, K.In base → base.Ns mainGlobals mg → FnOk l.prog w K mg base CX0 10 fa fd ["_law_script"] (spLaw K) := by
  have e := hfa.symm.trans (PySem.W.mg_of X G a9)
  cases e
  have F1 := fun_mk (st := sCopied) l1 c1 k1
  have b1 := F1.binds (ps := ["value"]) fun _ _ _ _ _ _ us hl => match us, hl with | [_], _ => rfl
  have m1 := PySem.W.mg_of X G a1
  have F2 := fun_mk (st := sCellAt) l2 c2 k2
  have b2 := F2.binds (ps := ["_law_script", "_law_k"]) fun _ _ _ _ _ _ us hl => match us, hl with | [_, _], _ => rfl
  have m2 := PySem.W.mg_of X G a2
  have F3 := fun_mk (st := sBox) l3 c3 k3
  have b3 := F3.binds (ps := ["_law_script", "_law_k"]) fun _ _ _ _ _ _ us hl => match us, hl with | [_, _], _ => rfl
  have m3 := PySem.W.mg_of X G a3
  have F4 := fun_mk (st := sTake) l4 c4 k4
  have b4 := F4.binds (ps := ["_law_box_here", "_law_below"]) fun _ _ _ _ _ _ us hl => match us, hl with | [_, _], _ => rfl
  have m4 := PySem.W.mg_of X G a4
  have F5 := fun_mk (st := sSame) l5 c5 k5
  have b5 := F5.binds (ps := ["_law_found", "_law_due"]) fun _ _ _ _ _ _ us hl => match us, hl with | [_, _], _ => rfl
  have m5 := PySem.W.mg_of X G a5
  have F6 := fun_mk (st := sFlags) l6 c6 k6
  have b6 := F6.binds (ps := ["_law_made"]) fun _ _ _ _ _ _ us hl => match us, hl with | [_], _ => rfl
  have m6 := PySem.W.mg_of X G a6
  have F7 := fun_mk (st := sOneRight) l7 c7 k7
  have b7 := F7.binds (ps := ["_law_made", "_law_at"]) fun _ _ _ _ _ _ us hl => match us, hl with | [_, _], _ => rfl
  have m7 := PySem.W.mg_of X G a7
  have F8 := fun_mk (st := sRight) l8 c8 k8
  have b8 := F8.binds (ps := ["_law_box_here"]) fun _ _ _ _ _ _ us hl => match us, hl with | [_], _ => rfl
  have m8 := PySem.W.mg_of X G a8
  have F9 := fun_mk (st := sLaw) l9 c9 k9
  have b9 := F9.binds (ps := ["_law_script"]) fun _ _ _ _ _ _ us hl => match us, hl with | [_], _ => rfl
  have m9 := PySem.W.mg_of X G a9
  have y1 := PySem.W.mg_none_of X G z1
  have y2 := PySem.W.mg_none_of X G z2
  have y3 := PySem.W.mg_none_of X G z3
  have y4 := PySem.W.mg_none_of X G z4
  have y5 := PySem.W.mg_none_of X G z5
  have y6 := PySem.W.mg_none_of X G z6
  have y7 := PySem.W.mg_none_of X G z7
  have y8 := PySem.W.mg_none_of X G z8
  have y9 := PySem.W.mg_none_of X G z9
  have y10 := PySem.W.mg_none_of X G z10
  have y11 := PySem.W.mg_none_of X G z11
  have y12 := PySem.W.mg_none_of X G z12
  have y13 := PySem.W.mg_none_of X G z13
  have y14 := PySem.W.mg_none_of X G z14
  have y15 := PySem.W.mg_none_of X G z15
  have y16 := PySem.W.mg_none_of X G z16
  have y17 := PySem.W.mg_none_of X G z17
  have y18 := PySem.W.mg_none_of X G z18
  have y19 := PySem.W.mg_none_of X G z19
  have y20 := PySem.W.mg_none_of X G z20
  have B : B0 mg := ⟨y1, y2, y3, y4, y5, y6, y7, y8, y9, y10, y11, y12⟩
  have Z : Eb mg := ⟨y14, y15, y16, y17, y18, y19, y20⟩
  have hM := PySem.W.mg_of X G hMo
  have mC0 := PySem.W.mg_of X G aC0
  have T0 : EX K C0 := ex_of PySem.F.excBase_ValueError PySem.F.store_ValueError xC0
  have R0 := rk_of (by rfl) T0 rC0
  have I0 := fun_mk (st := sBadText) lC0 cC0 kC0
  have bI0 := I0.binds (ps := ["self", "text"]) fun _ _ _ _ _ _ us hl => match us, hl with | [_, _], _ => rfl
  have kI0 := kb_of (p := "text") I0 fun _ _ _ _ _ _ _ _ => rfl
  have mC1 := PySem.W.mg_of X G aC1
  have T1 : EX K C1 := ex_of PySem.F.excBase_ValueError PySem.F.store_ValueError xC1
  have R1 := rk_of (by rfl) T1 rC1
  have I1 := fun_mk (st := sBadLine) lC1 cC1 kC1
  have bI1 := I1.binds (ps := ["self", "number"]) fun _ _ _ _ _ _ us hl => match us, hl with | [_, _], _ => rfl
  have kI1 := kb_of (p := "number") I1 fun _ _ _ _ _ _ _ _ => rfl
  have mC2 := PySem.W.mg_of X G aC2
  have T2 : EX K C2 := ex_of PySem.F.excBase_ValueError PySem.F.store_ValueError xC2
  have R2 := rk_of (by rfl) T2 rC2
  have I2 := fun_mk (st := sUnfit) lC2 cC2 kC2
  have bI2 := I2.binds (ps := ["self", "pair"]) fun _ _ _ _ _ _ us hl => match us, hl with | [_, _], _ => rfl
  have kI2 := kb_of (p := "pair") I2 fun _ _ _ _ _ _ _ _ => rfl
  have mC3 := PySem.W.mg_of X G aC3
  have T3 : EX K C3 := ex_of PySem.F.excBase_ValueError PySem.F.store_ValueError xC3
  have R3 := rk_of (by rfl) T3 rC3
  have I3 := fun_mk (st := sImpossible) lC3 cC3 kC3
  have bI3 := I3.binds (ps := ["self", "evidence"]) fun _ _ _ _ _ _ us hl => match us, hl with | [_, _], _ => rfl
  have kI3 := kb_of (p := "evidence") I3 fun _ _ _ _ _ _ _ _ => rfl
  have mC4 := PySem.W.mg_of X G aC4
  have T4 : EX K C4 := ex_of PySem.F.excBase_LookupError PySem.F.store_LookupError xC4
  have R4 := rk_of (by rfl) T4 rC4
  have I4 := fun_mk (st := sNoPerson) lC4 cC4 kC4
  have bI4 := I4.binds (ps := ["self", "person"]) fun _ _ _ _ _ _ us hl => match us, hl with | [_, _], _ => rfl
  have kI4 := kb_of (p := "person") I4 fun _ _ _ _ _ _ _ _ => rfl
  have mC5 := PySem.W.mg_of X G aC5
  have T5 : EX K C5 := ex_of PySem.F.excBase_LookupError PySem.F.store_LookupError xC5
  have R5 := rk_of (by rfl) T5 rC5
  have I5 := fun_mk (st := sNoArm) lC5 cC5 kC5
  have bI5 := I5.binds (ps := ["self", "person"]) fun _ _ _ _ _ _ us hl => match us, hl with | [_, _], _ => rfl
  have kI5 := kb_of (p := "person") I5 fun _ _ _ _ _ _ _ _ => rfl
  have mC6 := PySem.W.mg_of X G aC6
  have T6 : EX K C6 := ex_of PySem.F.excBase_LookupError PySem.F.store_LookupError xC6
  have R6 := rk_of (by rfl) T6 rC6
  have I6 := fun_mk (st := sNoPlace) lC6 cC6 kC6
  have bI6 := I6.binds (ps := ["self", "place"]) fun _ _ _ _ _ _ us hl => match us, hl with | [_, _], _ => rfl
  have kI6 := kb_of (p := "place") I6 fun _ _ _ _ _ _ _ _ => rfl
  have mC7 := PySem.W.mg_of X G aC7
  have T7 : EX K C7 := ex_of PySem.F.excBase_LookupError PySem.F.store_LookupError xC7
  have R7 := rk_of (by rfl) T7 rC7
  have I7 := fun_mk (st := sNoNumber) lC7 cC7 kC7
  have bI7 := I7.binds (ps := ["self", "number"]) fun _ _ _ _ _ _ us hl => match us, hl with | [_, _], _ => rfl
  have kI7 := kb_of (p := "number") I7 fun _ _ _ _ _ _ _ _ => rfl
  have mC8 := PySem.W.mg_of X G aC8
  have T8 : EX K C8 := ex_of PySem.F.excBase_LookupError PySem.F.store_LookupError xC8
  have R8 := rk_of (by rfl) T8 rC8
  have I8 := fun_mk (st := sNoOperation) lC8 cC8 kC8
  have bI8 := I8.binds (ps := ["self", "many"]) fun _ _ _ _ _ _ us hl => match us, hl with | [_, _], _ => rfl
  have kI8 := kb_of (p := "many") I8 fun _ _ _ _ _ _ _ _ => rfl
  have mC9 := PySem.W.mg_of X G aC9
  have T9 : EX K C9 := ex_of PySem.F.excBase_RuntimeError PySem.F.store_RuntimeError xC9
  have R9 := rk_of (by rfl) T9 rC9
  have I9 := fun_mk (st := sBlocked) lC9 cC9 kC9
  have bI9 := I9.binds (ps := ["self", "pair"]) fun _ _ _ _ _ _ us hl => match us, hl with | [_, _], _ => rfl
  have kI9 := kb_of (p := "pair") I9 fun _ _ _ _ _ _ _ _ => rfl
  have mC10 := PySem.W.mg_of X G aC10
  have T10 : EX K C10 := ex_of PySem.F.excBase_OverflowError PySem.F.store_OverflowError xC10
  have R10 := rk_of (by rfl) T10 rC10
  have I10 := fun_mk (st := sTooMany) lC10 cC10 kC10
  have bI10 := I10.binds (ps := ["self", "many"]) fun _ _ _ _ _ _ us hl => match us, hl with | [_, _], _ => rfl
  have kI10 := kb_of (p := "many") I10 fun _ _ _ _ _ _ _ _ => rfl
  have mC11 := PySem.W.mg_of X G aC11
  have T11 : EX K C11 := ex_of PySem.F.excBase_OverflowError PySem.F.store_OverflowError xC11
  have R11 := rk_of (by rfl) T11 rC11
  have I11 := fun_mk (st := sFull) lC11 cC11 kC11
  have bI11 := I11.binds (ps := ["self", "many"]) fun _ _ _ _ _ _ us hl => match us, hl with | [_, _], _ => rfl
  have kI11 := kb_of (p := "many") I11 fun _ _ _ _ _ _ _ _ => rfl
  have mC12 := PySem.W.mg_of X G aC12
  have T12 : EX K C12 := ex_of PySem.F.excBase_ValueError PySem.F.store_ValueError xC12
  have R12 := rk_of (by rfl) T12 rC12
  have I12 := fun_mk (st := sOtherPeople) lC12 cC12 kC12
  have bI12 := I12.binds (ps := ["self"]) fun _ _ _ _ _ _ us hl => match us, hl with | [_], _ => rfl
  have N : Nm mg (fun i => [C1, C0, C9, C11, C3, C5, C7, C8, C4, C6, C12, C10, C2].getD i 0) := ⟨mC1, mC0, mC9, mC11, mC3, mC5, mC7, mC8, mC4, mC6, mC12, mC10, mC2⟩
  refine ⟨PySem.W.fnOf "law" "law" (defArgs sLaw) (defBody sLaw) (defScope sLaw) .none kV9 dc9 pm9 an9 cd9 ct9, fun s v => .of_eq rfl, fun base _ _ => ?_⟩
  have hCell := ok_cell_at (P := l.prog) (w := w) (mg := mg) (base := base) (k := 0) F2 B
  have hBox := ok_box (P := l.prog) (w := w) (mg := mg) (base := base) (k := 1) F3 B hCell b2 k2 m2
  have hTake := ok_take (P := l.prog) (w := w) (mg := mg) (base := base) F4 b4 m4
  have hTakeB := ok_takeB (P := l.prog) (w := w) (mg := mg) (base := base) hTake F4 b4 m4
  have hSame := ok_same (P := l.prog) (w := w) (mg := mg) (base := base) F5 B y13 b5 m5 8
  have hCop := ok_copied (P := l.prog) (w := w) (mg := mg) (base := base) F1 B b1 m1 4
  have hFl := ok_flags (P := l.prog) (w := w) (mg := mg) (base := base) (k := 0) F6 B N
  have hOne := ok_one (P := l.prog) (w := w) (mg := mg) (base := base) (k := 1) F7 B Z ⟨hFl, m6, k6, b6⟩
  have q0 := ok_BadText (P := l.prog) (w := w) (mg := mg) (base := base) (k := 4) I0 T0 nC0
  have Y0 : My l.prog w K mg base 7 _ "BadText" "text" 0 C0 g0 _ := ⟨⟨T0, mC0, iC0, tC0, q0.mono (by decide), bI0⟩, kI0, nC0, R0⟩
  have q1 := ok_BadLine (P := l.prog) (w := w) (mg := mg) (base := base) (k := 4) I1 T1 nC1
  have Y1 : My l.prog w K mg base 7 _ "BadLine" "number" 0 C1 g1 _ := ⟨⟨T1, mC1, iC1, tC1, q1.mono (by decide), bI1⟩, kI1, nC1, R1⟩
  have q2 := ok_Unfit (P := l.prog) (w := w) (mg := mg) (base := base) I2 T2 nC2 hCop m1 k1 b1
  have Y2 : My l.prog w K mg base 7 _ "Unfit" "pair" 0 C2 g2 _ := ⟨⟨T2, mC2, iC2, tC2, q2.mono (by decide), bI2⟩, kI2, nC2, R2⟩
  have q3 := ok_Impossible (P := l.prog) (w := w) (mg := mg) (base := base) I3 T3 nC3 hCop m1 k1 b1
  have Y3 : My l.prog w K mg base 7 _ "Impossible" "evidence" 0 C3 g3 _ := ⟨⟨T3, mC3, iC3, tC3, q3.mono (by decide), bI3⟩, kI3, nC3, R3⟩
  have q4 := ok_NoPerson (P := l.prog) (w := w) (mg := mg) (base := base) (k := 4) I4 T4 nC4
  have Y4 : My l.prog w K mg base 7 _ "NoPerson" "person" 1 C4 g4 _ := ⟨⟨T4, mC4, iC4, tC4, q4.mono (by decide), bI4⟩, kI4, nC4, R4⟩
  have q5 := ok_NoArm (P := l.prog) (w := w) (mg := mg) (base := base) (k := 4) I5 T5 nC5
  have Y5 : My l.prog w K mg base 7 _ "NoArm" "person" 1 C5 g5 _ := ⟨⟨T5, mC5, iC5, tC5, q5.mono (by decide), bI5⟩, kI5, nC5, R5⟩
  have q6 := ok_NoPlace (P := l.prog) (w := w) (mg := mg) (base := base) (k := 4) I6 T6 nC6
  have Y6 : My l.prog w K mg base 7 _ "NoPlace" "place" 1 C6 g6 _ := ⟨⟨T6, mC6, iC6, tC6, q6.mono (by decide), bI6⟩, kI6, nC6, R6⟩
  have q7 := ok_NoNumber (P := l.prog) (w := w) (mg := mg) (base := base) (k := 4) I7 T7 nC7
  have Y7 : My l.prog w K mg base 7 _ "NoNumber" "number" 1 C7 g7 _ := ⟨⟨T7, mC7, iC7, tC7, q7.mono (by decide), bI7⟩, kI7, nC7, R7⟩
  have q8 := ok_NoOperation (P := l.prog) (w := w) (mg := mg) (base := base) (k := 4) I8 T8 nC8
  have Y8 : My l.prog w K mg base 7 _ "NoOperation" "many" 1 C8 g8 _ := ⟨⟨T8, mC8, iC8, tC8, q8.mono (by decide), bI8⟩, kI8, nC8, R8⟩
  have q9 := ok_Blocked (P := l.prog) (w := w) (mg := mg) (base := base) I9 T9 nC9 hCop m1 k1 b1
  have Y9 : My l.prog w K mg base 7 _ "Blocked" "pair" 2 C9 g9 _ := ⟨⟨T9, mC9, iC9, tC9, q9.mono (by decide), bI9⟩, kI9, nC9, R9⟩
  have q10 := ok_TooMany (P := l.prog) (w := w) (mg := mg) (base := base) (k := 4) I10 T10 nC10
  have Y10 : My l.prog w K mg base 7 _ "TooMany" "many" 3 C10 g10 _ := ⟨⟨T10, mC10, iC10, tC10, q10.mono (by decide), bI10⟩, kI10, nC10, R10⟩
  have q11 := ok_Full (P := l.prog) (w := w) (mg := mg) (base := base) (k := 4) I11 T11 nC11
  have Y11 : My l.prog w K mg base 7 _ "Full" "many" 3 C11 g11 _ := ⟨⟨T11, mC11, iC11, tC11, q11.mono (by decide), bI11⟩, kI11, nC11, R11⟩
  have q12 := ok_OtherPeople (P := l.prog) (w := w) (mg := mg) (base := base) (k := 4) I12 ⟨⟨_, _, _, _, _, _, _, _, _, _, _, _, _, _, _, oC, oR⟩, T12.sa, T12.ex, T12.ty, T12.kp⟩ y14 oV
  have Y12 : Mx l.prog w K mg base 7 "OtherPeople" [] (spIni0 C12) C12 g12 _ := ⟨T12, mC12, iC12, tC12, q12.mono (by decide), bI12⟩
  have hR := ok_right (P := l.prog) (w := w) (mg := mg) (base := base) (k := 7) F8 B ⟨hTake.mono (by decide), m4, k4, b4⟩ ⟨hTakeB.mono (by decide), m4, k4, b4⟩ ⟨hSame.mono (by decide), m5, k5, b5⟩ ⟨hOne.mono (by decide), m7, k7, b7⟩ Y12 R12 hM Y0 Y1 Y2 Y3 Y4 Y5 Y6 Y7 Y8 Y9 Y10 Y11
  exact ok_law (k := 9) F9 B ⟨hBox.mono (by decide), m3, k3, b3⟩ hR m8 k8 b8
theorem walk {l : PySem.W.OpenLaw} {q : Program} {loose : List Str} {XP : (Str → Option Value) → Heap → Prop} {YP : World → Heap → Prop} {d : DefRec} {K : Params → PySem.W.Frag} (hn : l.most = some 63) (hdf : d.params.defaults = []) (hY : ∀ (w : World) (h : Heap), YP w h → (K w.params).In h)
    (F : ∀ (w : World) (mg : Str → Option Value) (fa : Addr) (h : Heap), (K w.params).In h → h.Ns mainGlobals mg → mg d.name = some (.ref fa) → ∃ fd : FuncData, (∀ (s : Shared) (u : Value), BindsTo s fd ⟨[u], []⟩ [("_law_script", u)]) ∧ ∀ base : Heap, (K w.params).In base → base.Ns mainGlobals mg → FnOk l.prog w (K w.params) mg base CX0 10 fa fd ["_law_script"] (spLaw (K w.params))) :
    PySem.W.WalkO q loose XP YP l.row.toRowW d [] (fun f vs => PySem.call f vs) :=
  walk_of (CX := fun _ => CX0) (n := 63) (k := 10) (x := "_law_script") (sp := fun w => spLaw (K w.params)) hn (by decide) hdf ⟨rfl, by decide, by decide⟩ hY F (fun _ _ a ns hl _ hS => ⟨a, ns, rfl, hS, hl, fun _ => rfl⟩) (fun _ _ _ _ _ z => z)
end K15

open PySem PySem.W PyProof.Rows
set_option Elab.async false
set_option maxRecDepth 100000 in
set_option maxHeartbeats 0 in
theorem PySem.Challenge.cw_handshakes_k15_errors_by_hand_holds : PySem.Challenge.rw_handshakes_k15_errors_by_hand.Holds := by
  w_on; o_law; k_head; (case hw => w_witness2)
  k_fill
  refine K15.walk (l := PySem.Challenge.rw_handshakes_k15_errors_by_hand) rfl rfl (fun w h Y => PySem.W.kIn_of Y) ?F
  case F =>
    intro w mg fa h KX G hmg
    refine' K15.all_mk KX G hmg ?a1 ?l1 ?c1 ?k1 ?a2 ?l2 ?c2 ?k2 ?a3 ?l3 ?c3 ?k3 ?a4 ?l4 ?c4 ?k4 ?a5 ?l5 ?c5 ?k5 ?a6 ?l6 ?c6 ?k6 ?a7 ?l7 ?c7 ?k7 ?a8 ?l8 ?c8 ?k8 ?a9 ?l9 ?c9 ?k9 ?aC0 ?aC1 ?aC2 ?aC3 ?aC4 ?aC5 ?aC6 ?aC7 ?aC8 ?aC9 ?aC10 ?aC11 ?aC12 ?iC0 ?lC0 ?cC0 ?kC0 ?tC0 ?nC0 ?xC0 ?rC0 ?iC1 ?lC1 ?cC1 ?kC1 ?tC1 ?nC1 ?xC1 ?rC1 ?iC2 ?lC2 ?cC2 ?kC2 ?tC2 ?nC2 ?xC2 ?rC2 ?iC3 ?lC3 ?cC3 ?kC3 ?tC3 ?nC3 ?xC3 ?rC3 ?iC4 ?lC4 ?cC4 ?kC4 ?tC4 ?nC4 ?xC4 ?rC4 ?iC5 ?lC5 ?cC5 ?kC5 ?tC5 ?nC5 ?xC5 ?rC5 ?iC6 ?lC6 ?cC6 ?kC6 ?tC6 ?nC6 ?xC6 ?rC6 ?iC7 ?lC7 ?cC7 ?kC7 ?tC7 ?nC7 ?xC7 ?rC7 ?iC8 ?lC8 ?cC8 ?kC8 ?tC8 ?nC8 ?xC8 ?rC8 ?iC9 ?lC9 ?cC9 ?kC9 ?tC9 ?nC9 ?xC9 ?rC9 ?iC10 ?lC10 ?cC10 ?kC10 ?tC10 ?nC10 ?xC10 ?rC10 ?iC11 ?lC11 ?cC11 ?kC11 ?tC11 ?nC11 ?xC11 ?rC11 ?iC12 ?lC12 ?cC12 ?kC12 ?tC12 ?xC12 ?rC12 ?oC ?oR ?oV ?hMo ?z1 ?z2 ?z3 ?z4 ?z5 ?z6 ?z7 ?z8 ?z9 ?z10 ?z11 ?z12 ?z13 ?z14 ?z15 ?z16 ?z17 ?z18 ?z19 ?z20
    (case a1 => k_is)
    (case l1 => k_is)
    (case c1 => k_is)
    (case k1 => k_is)
    (case a2 => k_is)
    (case l2 => k_is)
    (case c2 => k_is)
    (case k2 => k_is)
    (case a3 => k_is)
    (case l3 => k_is)
    (case c3 => k_is)
    (case k3 => k_is)
    (case a4 => k_is)
    (case l4 => k_is)
    (case c4 => k_is)
    (case k4 => k_is)
    (case a5 => k_is)
    (case l5 => k_is)
    (case c5 => k_is)
    (case k5 => k_is)
    (case a6 => k_is)
    (case l6 => k_is)
    (case c6 => k_is)
    (case k6 => k_is)
    (case a7 => k_is)
    (case l7 => k_is)
    (case c7 => k_is)
    (case k7 => k_is)
    (case a8 => k_is)
    (case l8 => k_is)
    (case c8 => k_is)
    (case k8 => k_is)
    (case a9 => k_is)
    (case l9 => k_is)
    (case c9 => k_is)
    (case k9 => k_is)
    (case aC0 => k_is)
    (case aC1 => k_is)
    (case aC2 => k_is)
    (case aC3 => k_is)
    (case aC4 => k_is)
    (case aC5 => k_is)
    (case aC6 => k_is)
    (case aC7 => k_is)
    (case aC8 => k_is)
    (case aC9 => k_is)
    (case aC10 => k_is)
    (case aC11 => k_is)
    (case aC12 => k_is)
    (case iC0 => k_is)
    (case lC0 => k_is)
    (case cC0 => k_is)
    (case kC0 => k_is)
    (case tC0 => k_is)
    (case nC0 => k_is)
    (case xC0 => kernel_rfl)
    (case rC0 => kernel_rfl)
    (case iC1 => k_is)
    (case lC1 => k_is)
    (case cC1 => k_is)
    (case kC1 => k_is)
    (case tC1 => k_is)
    (case nC1 => k_is)
    (case xC1 => kernel_rfl)
    (case rC1 => kernel_rfl)
    (case iC2 => k_is)
    (case lC2 => k_is)
    (case cC2 => k_is)
    (case kC2 => k_is)
    (case tC2 => k_is)
    (case nC2 => k_is)
    (case xC2 => kernel_rfl)
    (case rC2 => kernel_rfl)
    (case iC3 => k_is)
    (case lC3 => k_is)
    (case cC3 => k_is)
    (case kC3 => k_is)
    (case tC3 => k_is)
    (case nC3 => k_is)
    (case xC3 => kernel_rfl)
    (case rC3 => kernel_rfl)
    (case iC4 => k_is)
    (case lC4 => k_is)
    (case cC4 => k_is)
    (case kC4 => k_is)
    (case tC4 => k_is)
    (case nC4 => k_is)
    (case xC4 => kernel_rfl)
    (case rC4 => kernel_rfl)
    (case iC5 => k_is)
    (case lC5 => k_is)
    (case cC5 => k_is)
    (case kC5 => k_is)
    (case tC5 => k_is)
    (case nC5 => k_is)
    (case xC5 => kernel_rfl)
    (case rC5 => kernel_rfl)
    (case iC6 => k_is)
    (case lC6 => k_is)
    (case cC6 => k_is)
    (case kC6 => k_is)
    (case tC6 => k_is)
    (case nC6 => k_is)
    (case xC6 => kernel_rfl)
    (case rC6 => kernel_rfl)
    (case iC7 => k_is)
    (case lC7 => k_is)
    (case cC7 => k_is)
    (case kC7 => k_is)
    (case tC7 => k_is)
    (case nC7 => k_is)
    (case xC7 => kernel_rfl)
    (case rC7 => kernel_rfl)
    (case iC8 => k_is)
    (case lC8 => k_is)
    (case cC8 => k_is)
    (case kC8 => k_is)
    (case tC8 => k_is)
    (case nC8 => k_is)
    (case xC8 => kernel_rfl)
    (case rC8 => kernel_rfl)
    (case iC9 => k_is)
    (case lC9 => k_is)
    (case cC9 => k_is)
    (case kC9 => k_is)
    (case tC9 => k_is)
    (case nC9 => k_is)
    (case xC9 => kernel_rfl)
    (case rC9 => kernel_rfl)
    (case iC10 => k_is)
    (case lC10 => k_is)
    (case cC10 => k_is)
    (case kC10 => k_is)
    (case tC10 => k_is)
    (case nC10 => k_is)
    (case xC10 => kernel_rfl)
    (case rC10 => kernel_rfl)
    (case iC11 => k_is)
    (case lC11 => k_is)
    (case cC11 => k_is)
    (case kC11 => k_is)
    (case tC11 => k_is)
    (case nC11 => k_is)
    (case xC11 => kernel_rfl)
    (case rC11 => kernel_rfl)
    (case iC12 => k_is)
    (case lC12 => k_is)
    (case cC12 => k_is)
    (case kC12 => k_is)
    (case tC12 => k_is)
    (case xC12 => kernel_rfl)
    (case rC12 => kernel_rfl)
    (case oC => k_is)
    (case oR => kernel_rfl)
    (case oV => k_is)
    (case hMo => k_is)
    (case z1 => k_is)
    (case z2 => k_is)
    (case z3 => k_is)
    (case z4 => k_is)
    (case z5 => k_is)
    (case z6 => k_is)
    (case z7 => k_is)
    (case z8 => k_is)
    (case z9 => k_is)
    (case z10 => k_is)
    (case z11 => k_is)
    (case z12 => k_is)
    (case z13 => k_is)
    (case z14 => k_is)
    (case z15 => k_is)
    (case z16 => k_is)
    (case z17 => k_is)
    (case z18 => k_is)
    (case z19 => k_is)
    (case z20 => k_is)
#print axioms PySem.Challenge.cw_handshakes_k15_errors_by_hand_holds

