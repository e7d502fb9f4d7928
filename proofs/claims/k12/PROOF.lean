import PyProof.Rows.All
import Wide.All
import OpenK.AllK
import Wide.FinOn
import HandS.ForMost
import HandS.Exc
import HandS.ExcInit
import HandS.ExcIs
import HandS.ExcField
import PyProof.ReprReads
import HandS.NoneIn
import HandS.Flow
import PySem.Challenge.RW_foldsame_k12_errors
set_option Elab.async false
set_option linter.all false
set_option maxRecDepth 100000
set_option maxHeartbeats 4000000
/-! Own rules: exceptions of own classes as values (made, read, asked by isinstance), repr of lists of plain values. -/
namespace PySem.W
open PySem PySem.Spec PySem.Calls PyProof.Rows
section
variable {prog : Program} {w : World} {A : Around} {E : Value → Shared → Prop} {s : Shared} {K : Frag} {x D : Addr} {ox : Obj} {od : Option Obj}
theorem fs_findClass (hdct : hasDictIn K D = true) (ha : findIn K (.ref D) "__class__" = some (some (.builtin "object.__class__"))) (hn : specialIn K (.builtin "object.__class__") "__get__" = some (some (.builtin "getset_descriptor.__get__")))
    (htk : takesIn K (.builtin "object.__class__") = some true) : findObj K D od "__class__" = some (.bind (.builtin "getset_descriptor.__get__") (.builtin "object.__class__")) := by
  obtain ⟨cd, hcd, _⟩ := any_some hdct
  unfold findObj; rw [hcd, Option.bind_some, ha, Option.bind_some]; simp [hn, htk]
theorem fs_class {Q : Option Value → Shared → Prop} (hga : findIn K (.ref D) "__getattribute__" = some (some (.builtin "BaseException.__getattribute__"))) (hgt : findIn K (.ref D) "__getattr__" = some none) (hsub : subIn K (.ref D) (.type "BaseException") = some true)
    (hdct : hasDictIn K D = true) (ha : findIn K (.ref D) "__class__" = some (some (.builtin "object.__class__")))
    (hn : specialIn K (.builtin "object.__class__") "__get__" = some (some (.builtin "getset_descriptor.__get__"))) (htk : takesIn K (.builtin "object.__class__") = some true) (hm : mroIn K D (.type "object") = some true)
    (KX : K.In s.heap) (J : InstAt s.heap x ox D od) (hq : Q (some (.ref D)) { s with toks := s.toks + 1 }) : wpAny (model prog w) A (getAttr? (.ref x) "__class__") Q E s := by
  have hfind : findObj K D od "__class__" = some (.bind (.builtin "getset_descriptor.__get__") (.builtin "object.__class__")) := fs_findClass hdct ha hn htk
  obtain ⟨hp, gg, dd, tt, oo⟩ := s
  have M0 := J.type (M := model prog w); have M1 := looks_findIn (M := model prog w) KX hga
  have M2 := looks_findIn (M := model prog w) KX hgt; have M3 := looks_find (M := model prog w) KX J hfind
  have hisB : Looks (model prog w) hp (isInstance (.ref x) (.type "BaseException")) true := M0.andThen (looks_subIn KX hsub)
  have e0 : (false && onTheHeap (Value.builtin "BaseException.__getattribute__")) = false := rfl
  have e2 : (Value.builtin "BaseException.__getattribute__" == Value.builtin "object.__getattribute__") = false := by decide +kernel
  have e1 : (onTheHeap (Value.ref D) && Value.builtin "BaseException.__getattribute__" == Value.builtin "object.__getattribute__") = false := by rw [e2] <;> rfl
  unfold getAttr? getAttrBy? getAttrBy
  refine wpAny_bind (wpAny_mkText (wpAny_bind (wpAny_attempt (wpAny_holding (wpAny_bind (M0.at (wpAny_bind (M1.at ?_))))))))
  show wpAny _ _ (if (onTheHeap (Value.ref D) && Value.builtin "BaseException.__getattribute__" == Value.builtin "object.__getattribute__") = true then _ else _) _ _ _
  rw [e1, if_neg Bool.false_ne_true]; unfold getAttrByItsOwn hookBefore
  refine wpAny_bind ?_
  rw [if_pos (show onTheHeap (Value.ref D) = true from rfl)]; refine M2.at ?_
  refine wpAny_bind (wpAny_attempt (wpAny_holding ?_)); unfold callGetattribute
  rw [e0, if_neg Bool.false_ne_true]; unfold boundAndCalled
  rw [PySem.F.excAttr_ValueError.ga.bind (.ref x)]; refine wpAny_bind (wpAny_pure ?_)
  show wpAny _ _ (call (.builtin "BaseException.__getattribute__") [.ref x, .str "__class__" tt]) _ _ _
  refine wpAny_call (codeAny_call_builtin PySem.F.excAttr_ValueError.ga.plain PySem.F.entry_bexc_ga ?_)
  refine @check_slot (model prog w) _ _ ⟨hp, gg, dd, tt + 1, oo⟩ "BaseException.__getattribute__" "BaseException" "__getattribute__" (.ref x) [.str "__class__" tt] [] _ (by decide +kernel) (by decide +kernel) hisB (PySem.F.args_bexc_ga (.ref x) (.str "__class__" tt)) ?_
  unfold Builtin.«object.__getattribute__»
  refine wpAny_bind (wpAny_of_eq (a := ((Value.ref x : Value), [Value.str "__class__" tt])) (by first | rfl | (simp only [slotArgs]; rfl)) ?_)
  refine wpAny_bind (wpAny_pure (wpAny_bind (M0.at (wpAny_bind (M3.at ?_)))))
  show wpAny _ _ (holding [Value.builtin "object.__class__"] (call (.builtin "getset_descriptor.__get__") [.builtin "object.__class__", .ref x, .ref D]) >>= ret) _ _ _
  refine wpAny_bind (wpAny_holding (wpAny_call (class_get (s := ⟨hp, gg, dd, tt + 1, oo⟩) (ox := ox) (od := od) KX J hm ?_))); refine wpAny_pure ?_
  show wpAny _ _ (handedOut (.ref D)) _ _ _
  rw [handedOut_of (v := .ref D) rfl]
  first | exact wpAny_pure (wpAny_pure hq) | exact wpAny_pure hq | exact wpAny_pure (wpAny_bind (wpAny_pure (wpAny_pure hq)))
theorem fs_kitx (hga : findIn K (.ref D) "__getattribute__" = some (some (.builtin "BaseException.__getattribute__"))) (hgt : findIn K (.ref D) "__getattr__" = some none) (hsub : subIn K (.ref D) (.type "BaseException") = some true) (hdct : hasDictIn K D = true) (ha : findIn K (.ref D) "__class__" = some (some (.builtin "object.__class__")))
    (hn : specialIn K (.builtin "object.__class__") "__get__" = some (some (.builtin "getset_descriptor.__get__"))) (htk : takesIn K (.builtin "object.__class__") = some true) (hm : mroIn K D (.type "object") = some true) :
    KitX K (.ref x) (.ref D) (fun h => ∃ ox od, InstAt h x ox D od) where
  ty := fun _ _ _ ⟨_, _, J⟩ => J.type
  it := fun _ _ KX _ => by
    obtain ⟨cc, hcc, _⟩ := any_some hdct
    unfold clsIn at hcc
    split at hcc
    · rename_i hlook
      intro A1 Q1 E1 s1 kk qq; unfold isType loadHead
      exact wpAny_bind (wpAny_loadPart (kk _ _ (KX _ _ hlook)) (wpAny_pure qq))
    · cases hcc
  ne := fun hh tp dd its nn sl KX htp => by
    obtain ⟨cc, hcc, _⟩ := any_some hdct
    refine Bool.eq_false_iff.mpr fun qq => ?_
    have eD : D = tp := Value.ref.inj (beq_iff_eq.mp qq)
    subst eD; unfold clsIn at hcc
    split at hcc
    · rename_i hlook
      have zz := (KX _ _ hlook).symm.trans htp; cases zz
    · cases hcc
  ca := fun KX ⟨_, _, J⟩ kk => fs_class hga hgt hsub hdct ha hn htk hm KX J kk
end
end PySem.W
namespace FS
open PySem PySem.Spec PyProof.Rows L2
/-! ### made -/
/-- C(e, ..) as a value, C's own __init__ keeping sp -/
def tMkV (C : Addr) (sp : Sp) (dvs : List V) (ta : TA) : TE := fun σ H Q => ta σ H fun vs H1 => vs.length ≤ 1000 ∧ ∀ a, H1 a = none →
  sp (.ref a :: (vs ++ dvs)) (upd H1 a (exo a C none)) (fun v H2 => v = .non ∧ Q (.ref a) H2) (fun _ _ _ => False)
section
variable {X : Cx} {e : Expr} {es : List Expr} {te : TE} {ta : TA} {p pos : Pos}
theorem pe_mkV {CX : CXT} {x : Str} {C fI : Addr} {k : Nat} {fd : FuncData} {ps : List Str} {sp : Sp} {ds : List Value} {dvs : List V} (T : OexC X.K C) (iC : PySem.W.findIn X.K (.ref C) "__init__" = some (some (.ref fI))) (tI : PySem.W.typeIn X.K (.ref fI) = some (.type "function"))
    (F1 : FnOk X.prog X.w X.K X.mg X.base CX k fI fd ps sp) (hr : Room (k + 1) X.A) (hb : Binds X.K fd ps ds) (hd : Vals dvs ds) (hx : Passes CX X (fun _ _ _ => False)) (hg : Gl X x) (hm : X.mg x = some (.ref C)) (ha : PA X (e :: es) ta)
    (hdb : (x == ("__debug__" : Str)) = false := by decide) (he : starEach (e :: es) X.env = (false, eval e X.env) :: starEach es X.env := by rfl) (hpl : (backTo pos (starEach es X.env)).any (·.1) = false := by rfl) :
    PE X (.Call (.Name x p) (e :: es) [] pos) (tMkV C sp dvs ta) := by
  refine ⟨fun pins st0 σ H Q I h => ?_⟩
  obtain ⟨nm, q, N, bs, bm, sn, sub, ab, col, dd, k0, k1, k2, k3, k5, hC, hbm⟩ := T.cls
  refine wpAny_Call_Name_kw (ld_glob I hg hm ?_ hdb)
  refine PySem.W.callWith_K (h₀ := X.base) I.ok.mod.kin T.kC (thn (ha.run pos pins st0 σ H _ I h) fun us s1 ⟨vs, H1, I1, r1, hz, q1⟩ => ⟨I1.kIn, ?_⟩) he hpl
  show wpAny _ _ (call (.ref C) us) _ _ _
  obtain ⟨hp, g, dr, tk, os⟩ := s1
  have hsz1 : hp.objs.size ≤ hp.objs.size + 1 := Nat.le_succ _
  have hn1 : H1 (hp.objs.size + 1) = none := I1.hok.fresh hsz1
  have hq1 := q1 (hp.objs.size + 1) hn1
  have kk1 : ∀ b o, hp.get? b = some o → ((hp.push (PySem.W.kdv_tup us)).push (PySem.HandSPX.excO C hp.objs.size)).get? b = some o := fun b o eo => Heap.get?_push_of_some _ (Heap.get?_push_of_some _ eo)
  have hget1 : ((hp.push (PySem.W.kdv_tup us)).push (PySem.HandSPX.excO C hp.objs.size)).get? (hp.objs.size + 1) = some (PySem.HandSPX.excO C hp.objs.size) := by heap_get
  have J2 : Inv X pins σ (upd H1 (hp.objs.size + 1) (exo (hp.objs.size + 1) C none)) ⟨(hp.push (PySem.W.kdv_tup us)).push (PySem.HandSPX.excO C hp.objs.size), g, dr, tk, os⟩ :=
    I1.laid (t' := tk) (a := hp.objs.size + 1) (o := exo (hp.objs.size + 1) C none) (h' := (hp.push (PySem.W.kdv_tup us)).push (PySem.HandSPX.excO C hp.objs.size)) kk1 hsz1 (exo_ok hget1)
  have rr2 : Vals (V.ref (hp.objs.size + 1) :: (vs ++ dvs)) (Value.ref (hp.objs.size + 1) :: (us ++ ds)) := .cons rfl (r1.append hd)
  have hl1 : (Value.ref (hp.objs.size + 1) :: us ++ ds).length = ps.length := by
    have e9 := rr2.length
    rw [F1.len _ _ _ _ hq1] at e9; exact e9.symm
  have hus1 : us.length ≤ sizeLine := by
    rw [← Paired.length r1, sizeLine_eq]; omega
  refine wpAny_call (PySem.HandSPX.call_own F.excBase_ValueError (fun Y => PySem.HandSPX.refsVE_contains Y bm hbm) (I1.kIn _ _ hC) (PySem.W.looks_findIn I1.kIn iC) (fun self => PySem.W.bind_fn I1.kIn self tI) hus1
    (codeAny_mono (F1.run _ X.stack _ _ ⟨Value.ref (hp.objs.size + 1) :: us, []⟩ (Value.ref (hp.objs.size + 1) :: (us ++ ds)) _ _ (fun _ _ _ => False) (hr.make C us []) (J2.env0.make C us []) (hb _ (Value.ref (hp.objs.size + 1) :: us) J2.kIn hl1) rr2 hq1) fun r s' hq' => ?_))
  cases r with
  | error er => exact hx pins σ _ _ er s' J2 hq'
  | ok fl =>
    cases fl with
    | ret u =>
      obtain ⟨v, H2, os2, bare2, un2, hok2, rv, ev, q2⟩ := hq'
      subst ev
      exact ⟨rv, .ref (hp.objs.size + 1), H2, J2.call' (ch := []) os2 un2 hok2 bare2 (fun b z => absurd z (by simp)), rfl, q2⟩
    | next => exact False.elim hq'
    | brk => exact False.elim hq'
    | cont => exact False.elim hq'
/-! ### read -/
def tXo (K : PySem.W.Frag) (f : Str) (te : TE) : TE := fun σ H Q => te σ H fun x H1 => ∃ (a C dd : Addr) (fs : List (Str × V)) (v : V), x = .ref a ∧ H1 a = some (exo a C (some dd)) ∧ H1 dd = some (exd dd fs) ∧ XfC K C ∧ PySem.W.findIn K (.ref C) f = some none ∧ fs.lookup f = some v ∧ Q v H1
theorem pe_xo {n : Str} (he : PE X e te) (hb : attributeBase e n X.env (eval e X.env) = eval e X.env := by rfl) : PE X (.Attribute e n pos) (tXo X.K n te) := by
  refine ⟨fun pins s σ H Q I h => ?_⟩
  refine attr_of hb (thn (he.run pins s σ H _ I h) fun u s1 hh => ?_)
  obtain ⟨x, H1, I1, rx, a, C, dd, fs, v, ex, ea, ed, T, hno, l, q⟩ := hh
  subst ex
  obtain rfl : u = Value.ref a := rx
  obtain ⟨t1, ho⟩ := exo_at I1.hok ea
  obtain ⟨mA, hns, hr⟩ := exd_at I1.hok ed
  obtain ⟨od, hod, hl⟩ := lookIn_ns hns
  obtain ⟨u, hu, ru⟩ := RelO.some_of (v := v) (o := mA n) (by rw [← l]; exact hr n)
  have J : PySem.W.InstAt s1.heap a { cls := .ref C, dict := some dd, data := .fields #[.ref t1, .none, .none, .none, .bool false, .none] } C (some od) := ⟨ho, rfl, rfl, hod⟩
  exact HandSPX.exc_get I1.kIn J T.ga T.gg T.exC (PySem.W.findObj_own T.hdC hno rfl (by rw [hl, hu])) (handed_of ru) ⟨v, H1, I1.tok _, ru, q⟩
end
/-! ### isinstance -/
def rIsO (K : PySem.W.Frag) : List V → Hp → VK → Prop := fun xs H Q => ∃ (a C d : Addr) (fs : List (Str × V)) (c : V) (cv : Value) (b : Bool), xs = [.ref a, c] ∧ H a = some (exo a C (some d)) ∧ H d = some (exd d fs) ∧ ExcC K C ∧ (∀ u, RelV c u → u = cv) ∧ PySem.W.kitOne K (.ref C) cv = some b ∧ Q (.bl b) H
theorem call_isO {X : Cx} : CallR X (.builtin "isinstance") (rIsO X.K) := by
  intro pins s σ H xs us Q I r h
  obtain ⟨a, C, d, fs, c, cv, b, rfl, ea, ed, T, hcv, e, q⟩ := h
  obtain ⟨u1, u2, rfl, r1, r2⟩ := vals2 r
  cases (show u1 = Value.ref a from r1)
  have ec := hcv _ r2
  subst ec
  obtain ⟨t1, ho⟩ := exo_at I.hok ea
  obtain ⟨mA, hns, hr⟩ := exd_at I.hok ed
  obtain ⟨od, hod, hl⟩ := lookIn_ns hns
  have J : PySem.W.InstAt s.heap a { cls := .ref C, dict := some d, data := .fields #[.ref t1, .none, .none, .none, .bool false, .none] } C (some od) := ⟨ho, rfl, rfl, hod⟩
  exact PySem.W.kia_one (PySem.W.fs_kitx T.hg T.hk T.hs T.hd T.ha T.hn T.ht T.hm) I.kIn ⟨_, _, J⟩ e (fun z => nomatch z) fun tk => ⟨.bl b, H, I.tok tk, rfl, q⟩
/-! ### repr of a list of plain values (an empty dict among them, not deeper) -/
inductive Dq (K : PySem.W.Frag) (H : Hp) : V → PyData → Prop
  | dp {v : V} {d : PyData} : Dp K H v d → d.hasDict = false → Dq K H v d
  | emp {a : Addr} : H a = some (.dK []) → Dq K H (.ref a) (.dict [])
inductive DqAll (K : PySem.W.Frag) (H : Hp) : List V → List PyData → Prop
  | nil : DqAll K H [] []
  | cons {v : V} {vs : List V} {d : PyData} {ds : List PyData} : Dq K H v d → DqAll K H vs ds → DqAll K H (v :: vs) (d :: ds)
section
variable {X : Cx} {pins : List (Addr × Obj)} {σ : L2.St} {H : Hp} {s : Shared}
theorem Dq.repr (I : Inv X pins σ H s) {v : V} {d : PyData} {u : Value} (h : Dq X.K H v d) (r : RelV v u) (hs : d.showable = true) (hz : d.shown.length ≤ sizeLine) :
    ∃ as bs, Reads s.heap u d as ∧ ReadAtMost s.heap d.depth bs ∧ ReprK X.prog X.w bs s.heap d.depth u d.shown := by
  cases h with
  | dp h hd =>
    obtain ⟨as, rd⟩ := Dp.reads I d v u h r
    obtain ⟨bs, h1, h2⟩ := ReprK.of_reads (prog := X.prog) (w := X.w) rd hs (PyData.noDict_hsm hd) hz
    exact ⟨as, bs, rd, h1, h2⟩
  | @emp a ea =>
    cases (show u = Value.ref a from r)
    obtain ⟨_, hsm, vs, kv, o, es, ep, h1, h2, h3, _, h4, _⟩ := (show ObjOk X.prog X.w H s.heap a (.dK []) from I.hok a _ ea)
    cases kv
    have e0 : es.toList = [] := by
      cases hq : es.toList with
      | nil => rfl
      | cons x xs =>
        rw [hq] at h4
        first | exact absurd h4 (by simp [Pairs]) | cases h4
    have rd : Reads s.heap (.ref a) (.dict []) (a :: [] ++ []) := .dict (kvs := []) h1 h2.1 h3 (by rw [e0]; exact .nil) (by rw [e0]; exact .nil)
    obtain ⟨bs, q1, q2⟩ := ReprK.of_reads (prog := X.prog) (w := X.w) rd hs (fun _ hm => by
      have : sysModules = a := by simpa using hm
      rw [this] at hsm
      simp at hsm) hz
    exact ⟨_, bs, rd, q1, q2⟩
theorem DqAll.repr (I : Inv X pins σ H s) : ∀ {vs : List V} {ds : List PyData} {us : List Value}, DqAll X.K H vs ds → Vals vs us → PyData.showableAll ds = true → (∀ t ∈ PyData.shownAll ds, t.length ≤ sizeLine) →
    ∃ as bs, ReadsAll s.heap us ds as ∧ ReadAtMost s.heap (PyData.depthAll ds) bs ∧ ReprAllK X.prog X.w bs s.heap (PyData.depthAll ds) us (PyData.shownAll ds)
  | _, _, _, .nil, .nil, _, _ => ⟨[], [], .nil, (fun _ h => nomatch h), by simp only [PyData.shownAll]; exact .nil⟩
  | _, _, _, .cons (d := d) (ds := ds) h hl, .cons r rl, hs, hz => by
    have hs2 : d.showable = true ∧ PyData.showableAll ds = true := by simpa [PyData.showableAll] using hs
    obtain ⟨a1, c1, rd1, q1, k1⟩ := Dq.repr I h r hs2.1 (hz _ (by simp only [PyData.shownAll]; exact List.mem_cons_self ..))
    obtain ⟨a2, c2, rd2, q2, k2⟩ := DqAll.repr I hl rl hs2.2 (fun t ht => hz t (by simp only [PyData.shownAll]; exact List.mem_cons_of_mem _ ht))
    refine ⟨_, c1 ++ c2, .cons rd1 rd2, ?_, ?_⟩
    · simp only [PyData.depthAll]
      exact (q1.mono (Nat.le_max_left _ _)).append (q2.mono (Nat.le_max_right _ _))
    · simp only [PyData.depthAll, PyData.shownAll]
      exact .cons ((k1.more fun b hb => List.mem_append_left _ hb).level_le (Nat.le_max_left _ _)) (k2.more_le (fun b hb => List.mem_append_right _ hb) (Nat.le_max_right _ _))
end
def rReprL (K : PySem.W.Frag) : List V → Hp → VK → Prop := fun xs H Q => ∃ (a : Addr) (v : V) (vs : List V) (ds : List PyData), xs = [.ref a] ∧ H a = some (.lst (v :: vs)) ∧ DqAll K H (v :: vs) ds ∧ PyData.showableAll ds = true ∧ PyData.depthAll ds ≤ 30 ∧
  (listText (PyData.shownAll ds)).length ≤ sizeLine ∧ Q (.str (listText (PyData.shownAll ds))) H
theorem call_reprL {X : Cx} (hg : X.A.guards = some []) (hu : X.A.units + 64 < cLine) : CallR X (.builtin "repr") (rReprL X.K) := by
  intro pins s σ H xs us Q I r h
  obtain ⟨a, v, vs, ds, rfl, ea, hd, hs, hdep, hz, q⟩ := h
  cases r with
  | cons ra rn =>
    cases rn
    rename_i u1
    cases (show u1 = Value.ref a from ra)
    obtain ⟨_, its, n, rv, ho⟩ := (show ObjOk X.prog X.w H s.heap a (.lst (v :: vs)) from I.hok a _ ea)
    cases rv with
    | @cons _ u _ ul r1 r2 =>
      obtain ⟨as, bs, rd, hb, hk⟩ := DqAll.repr I hd (.cons r1 r2) hs (fun t ht => Nat.le_trans (listText_mem_le ht) hz)
      have rr : Reads s.heap (.ref a) (.list ds) (a :: as) := .list ho rfl rfl rd
      have hna : a ∉ bs := not_mem_of_deeper rr (by simp only [PyData.depth]; omega) hb
      refine call_repr_slot (by omega) ⟨_, ho, rfl⟩ F.slot_list_repr.toG ?_
      exact call_list_reprK ho rfl rfl hna (by simpa using hk.length_eq) (fun i y e => hk.item i y (by simpa using e)) hg (fun b _ => Clear.nil b) (by show X.A.units + 1 + _ < cLine; omega) (fun _ _ e => e)
        (fun h' t tk hk' => ⟨_, _, rfl, .str (listText (PyData.shownAll ds)), H, I.kept (t' := tk) hk', ⟨_, rfl⟩, q⟩) hz
end FS

set_option Elab.async false
set_option linter.all false
set_option maxRecDepth 100000
set_option maxHeartbeats 4000000
/-! The law's own def is called where no guard stands: its promise may use that (repr of lists asks it). -/
namespace FS
open PySem PySem.Spec PyProof.Rows L2
structure FnG (P : Program) (w : World) (K : PySem.W.Frag) (mg : Str → Option Value) (base : Heap) (k : Nat) (f : Addr) (fd : FuncData) (ps : List Str) (sp : Sp) : Prop where
  len : ∀ vs H Q E, sp vs H Q E → vs.length = ps.length
  run : ∀ (A : Around) (out1 : List Env) (st1 : Shared) (H : Hp) (args : Args) (us : List Value) (vs : List V) (Q : VK) (E : XK), A.guards = some [] → Room k A → Env0 P w K mg base A out1 st1 H → BindsTo st1 fd args (ps.zip us) → Vals vs us → sp vs H Q E →
    codeAny (model P w) A (.call (.ref f) args) (CR CX0 out1 P w H st1 Q E) st1
section
variable {P : Program} {w : World} {K : PySem.W.Frag} {mg : Str → Option Value} {base : Heap}
theorem okG {x qual : Str} {st : Stmt} {f : Addr} {fd : FuncData} {N ps : List Str} {k : Nat} {sp : Sp} (F : Fun K x qual st f fd) (S : FnScope N ps (defScope st)) (hlen : ∀ vs H Q E, sp vs H Q E → vs.length = ps.length)
    (hbd : ∀ (cdv : Value) (A : Around) (out1 : List Env) (st1 : Shared) (H : Hp) (vs : List V) (Q : VK) (E : XK), (A.deeper (envOfC qual (defScope st) st1.heap.objs.size f cdv)).guards = some [] → Room k (A.deeper (envOfC qual (defScope st) st1.heap.objs.size f cdv)) → sp vs H Q E →
      ∃ t, PSs (cxOf CX0 P w K mg base N qual (defScope st) f cdv A out1 st1 H E).nox (defBody st) t ∧ t { nx := fun _ H' => Q .non H', rt := Q } (start N vs) H) : FnG P w K mg base (k + 1) f fd ps sp := by
  obtain ⟨oc, od, kV, doc, pm, an, cdv, ct, osl, rfl, lk, hcd⟩ := F.ex
  refine ⟨hlen, fun A out1 st1 H args us vs Q E hgd hr1 en0 hb1 rv1 hsp1 => ?_⟩
  have hl1 := hlen _ _ _ _ hsp1
  have KX1 : K.In st1.heap := en0.mod.kin.keeps fun b1 o1 e1 => (en0.bs b1 o1 e1).1
  have lim1 : st1.heap.NoLimit := en0.mod.nolimit.keeps fun b1 o1 e1 => (en0.bs b1 o1 e1).1
  have hknd : ∀ y1 ∈ ps.zip us, (defScope st).names.lookup y1.1 = some .local ∨ ((defScope st).names.lookup y1.1 = some .cell ∧ ((cellsFrom (st1.heap.objs.size + 1) (defScope st).names []).lookup y1.1).isSome = true) := fun ⟨n1, v1⟩ hy1 => by
    rcases S.par n1 (List.of_mem_zip hy1).1 with q1 | q1
    · exact .inl q1
    · exact .inr ⟨q1, PySem.W.cellsFrom_some _ _ _ (.inl q1)⟩
  refine codeAny_call_function hr1.depth (KX1 _ _ lk) rfl S.co S.gen rfl (PySem.W.codeRec_of KX1 hcd) (hb1 _ _ _ _ ?_)
  refine wpAny_newFunctionEnv_cells S.kind hknd fun env1 he1 st2 x1 => ?_
  subst he1; refine ⟨lim1.keeps x1.toInCall.keep, codeAny_func ?_⟩
  obtain ⟨t, ht0, hq1⟩ := hbd cdv A out1 st1 H vs Q E hgd (hr1.deeper _) hsp1
  have ht := ht0.nox
  have I1 : Inv (cxOf CX0 P w K mg base N qual (defScope st) f cdv A out1 st1 H E) [] (start N vs) H st2 := inv_start S hr1.hd en0 hl1 rv1 x1
  refine wpAny_mono (ht.run [] st2 (start N vs) H _ I1 hq1) (fun fl st3 hs1 => ?_) fun _ st3 hs1 => hs1
  have done1 : ∀ {σ1 : L2.St} {H1 : Hp} {v : V} {u : Value}, Inv (cxOf CX0 P w K mg base N qual (defScope st) f cdv A out1 st1 H E) [] σ1 H1 st3 → RelV v u → Q v H1 → CE out1 P w H st1 Q u st3 :=
    fun {σ1 H1 v u} J1 rv q1 => ⟨v, H1, J1.os, J1.bare, J1.base, J1.hok, rv, q1⟩
  cases fl with
  | ret u => obtain ⟨v, σ1, H1, J1, rv, q1⟩ := hs1; exact done1 J1 rv q1
  | next => obtain ⟨σ1, H1, J1, q1⟩ := hs1; exact done1 (v := V.non) (u := Value.none) J1 rfl q1
  | brk => obtain ⟨_, _, _, q1⟩ := hs1; exact False.elim q1
  | cont => obtain ⟨_, _, _, q1⟩ := hs1; exact False.elim q1
theorem law_callG {mb : Str → Option Value} {k : Nat} {fa a : Addr} {fd : FuncData} {x : Str} {sp : Sp} {st1 : Shared} {vs : List Value} {ns : List Int}
    (KX : K.In st1.heap) (hns : st1.heap.Ns mainGlobals mg) (hbl : st1.heap.Ns builtinsNs mb) (hbb : ∀ x : Str, x ≠ "__name__" → mb x = bootBuiltins x) (hlim : st1.heap.NoLimit) (hgn : st1.gens = #[])
    (hat : st1.heap.get? a = some { cls := .type "list", data := .seq vs.toArray }) (hi : IntsAre vs ns) (hl : ns.length ≤ sizeLine) (hr1 : Room k callerA)
    (F : ∀ base : Heap, K.In base → base.Ns mainGlobals mg → FnG P w K mg base k fa fd [x] sp) (hbind : ∀ (s : Shared) (u : Value), BindsTo s fd ⟨[u], []⟩ [(x, u)])
    (hsp1 : ∀ H : Hp, Only H → SqL K H a (ns.map V.int) → sp [.ref a] H (fun v _ => v = .bl true) fun _ _ _ => False) :
    codeAny (model P w) callerA (.call (.ref fa) ⟨[.ref a], []⟩) (fun r s' => r = .ok (.ret (.bool true)) ∧ OldK st1.heap s'.heap ∧ s'.os = st1.os ∧ AllBare s'.gens) st1 := by
  have rv1 := vals_ints hi
  have lenV1 := hi.length
  have core1 : ∀ H : Hp, Only H → SqL K H a (ns.map V.int) → HOk P w H st1.heap → (∀ b1, H b1 ≠ none → b1 = a) → (H a ≠ none → K.lookup a = none) →
      codeAny (model P w) callerA (.call (.ref fa) ⟨[.ref a], []⟩) (fun r s' => r = .ok (.ret (.bool true)) ∧ OldK st1.heap s'.heap ∧ s'.os = st1.os ∧ AllBare s'.gens) st1 := by
    intro H hO1 hS1 hok1 hA1 hK1
    have base1 : ∀ {b1 : Addr} {o1 : Obj}, st1.heap.get? b1 = some o1 → H b1 = none → (hidT st1.heap H).get? b1 = some o1 := fun e1 n1 => hidT_get e1 n1
    have noA1 : ∀ {b1 : Addr} {o1 : Obj} {es1 : Array DictEntry} {ep1 : Nat}, st1.heap.get? b1 = some o1 → o1.data = .dict es1 ep1 → H b1 = none := fun {b1 o1 es1 ep1} e1 d1 => by
      cases q1 : H b1 with
      | none => rfl
      | some u1 =>
        have e2 : b1 = a := hA1 b1 (by rw [q1]; simp)
        subst e2; rw [hat] at e1; cases e1
        have d2 : Data.seq vs.toArray _ = Data.dict es1 ep1 := d1
        cases d2
    have nsK1 : ∀ {b1 : Addr} {m : Str → Option Value}, st1.heap.Ns b1 m → (hidT st1.heap H).Ns b1 m := fun {b1 m} ⟨o1, es1, ep1, e1, d1, r1⟩ => ⟨o1, es1, ep1, base1 e1 (noA1 e1 d1), d1, r1⟩
    have hKb1 : K.In (hidT st1.heap H) := fun b1 o1 e1 => base1 (KX b1 o1 e1) (by
      cases q1 : H b1 with
      | none => rfl
      | some u1 =>
        have e2 : b1 = a := hA1 b1 (by rw [q1]; simp)
        subst e2; rw [hK1 (by rw [q1]; simp)] at e1; cases e1)
    have hM1 : Mod K mg (hidT st1.heap H) := ⟨hKb1, nsK1 hns, ⟨mb, nsK1 hbl, hbb⟩, let ⟨mc, h1, h2⟩ := hlim; ⟨mc, nsK1 h1, h2⟩⟩
    have en0 : Env0 P w K mg (hidT st1.heap H) callerA [] st1 H := ⟨rfl, hM1, fun b1 o1 e1 => of_hidT e1, Nat.le_of_eq (hidT_size _ _), trivial, fun b1 hb1 => absurd (show b1 ∈ ([] : List Addr) from hb1) (by simp), hok1, .of_eq hgn⟩
    refine codeAny_mono ((F _ hKb1 (nsK1 hns)).run callerA [] st1 H ⟨[.ref a], []⟩ [.ref a] [.ref a] _ _ rfl hr1 en0 (hbind st1 (.ref a)) (.cons rfl .nil) (hsp1 H hO1 hS1)) fun r s' h1 => ?_
    cases r with
    | error e1 => exact False.elim h1
    | ok fl =>
      cases fl with
      | next => exact False.elim h1
      | brk => exact False.elim h1
      | cont => exact False.elim h1
      | ret u1 =>
        obtain ⟨v1, H1, os1, bare1, un1, hok2, r1, q1⟩ := h1
        have q2 : v1 = .bl true := q1
        subst q2; obtain rfl : u1 = Value.bool true := r1
        refine ⟨rfl, OldK.of_keep fun b1 o1 e1 => ?_, os1, bare1⟩
        cases q3 : H b1 with
        | none => exact un1.keep b1 o1 e1 q3 (by intro z; exact absurd (show b1 ∈ ([] : List Addr) from z) (by simp)) (by simp)
        | some u2 =>
          rcases hO1 b1 with z1 | ⟨ob1, xs1, z1⟩
          · rw [q3] at z1; cases z1
          · have z2 := un1.frzs b1 ob1 _ z1
            obtain ⟨e3, _⟩ := hok1 b1 _ z1; obtain ⟨e4, _⟩ := hok2 b1 _ z2
            rw [e1] at e3; cases e3; exact e4
  cases hk1 : K.lookup a with
  | some o1 =>
    have e1 := KX a o1 hk1
    rw [hat] at e1; cases e1
    refine core1 (fun _ => none) (fun _ => .inl rfl) (.inr ⟨_, vs.toArray, _, hk1, rfl, rfl, rfl, by rw [List.size_toArray, lenV1]; exact hl, by simpa using rv1⟩) (fun b1 u1 z1 => by have z2 : (none : Option HO) = some u1 := z1; cases z2) (fun b1 z1 => absurd rfl z1) fun z1 => absurd rfl z1
  | none =>
    refine core1 (fun b1 => if b1 = a then some (.frz { cls := .type "list", data := .seq vs.toArray } (.lst (ns.map V.int))) else none) (fun b1 => ?_) (.inl (.inr ⟨{ cls := .type "list", data := .seq vs.toArray }, if_pos rfl⟩)) (fun b1 u1 z1 => ?_) (fun b1 z1 => ?_) fun _ => hk1
    · by_cases hb1 : b1 = a
      · exact .inr ⟨_, _, if_pos hb1⟩
      · exact .inl (if_neg hb1)
    · by_cases hb1 : b1 = a
      · have z2 := (if_pos hb1).symm.trans z1
        cases z2; subst hb1
        exact ⟨hat, by rw [List.length_map]; exact hl, vs, _, rv1, hat⟩
      · have z2 := (if_neg hb1).symm.trans z1
        cases z2
    · by_cases hb1 : b1 = a
      · exact hb1
      · exact absurd (if_neg hb1) z1
end
theorem walk_G {l : PySem.W.OpenLaw} {n k : Nat} {qp : Program} {loose : List Str} {XP : (Str → Option Value) → Heap → Prop} {YP : World → Heap → Prop} {dr : DefRec} {KK : Params → PySem.W.Frag} {sp : World → Sp} {x : Str}
    (hn : l.most = some n) (hn2 : n ≤ sizeLine) (hdf : dr.params.defaults = []) (hr1 : Room k callerA) (hY : ∀ (w : World) (h : Heap), YP w h → (KK w.params).In h)
    (F : ∀ (w : World) (mg : Str → Option Value) (fa : Addr) (h : Heap), (KK w.params).In h → h.Ns mainGlobals mg → mg dr.name = some (.ref fa) →
      ∃ fd : FuncData, (∀ (s : Shared) (u : Value), BindsTo s fd ⟨[u], []⟩ [(x, u)]) ∧ ∀ base : Heap, (KK w.params).In base → base.Ns mainGlobals mg → FnG l.prog w (KK w.params) mg base k fa fd [x] (sp w))
    (hsp1 : ∀ (w : World) (H : Hp) (a : Addr) (ns : List Int), ns.length ≤ n → Only H → SqL (KK w.params) H a (ns.map V.int) → sp w [.ref a] H (fun v _ => v = .bl true) fun _ _ _ => False) :
    PySem.W.WalkO qp loose XP YP l.row.toRowW dr [] (fun f vs => PySem.call f vs) := by
  refine Att.attach_call hn hdf fun w s0 st1 mg mb fa o pm cd doc a vs ns G Y ho hd hcd hmg hobj hints hlen hgn => ?_
  have KX1 := hY w _ Y
  obtain ⟨fd, hb1, hF1⟩ := F w mg fa _ KX1 G.T.g hmg
  exact law_callG KX1 G.T.g G.T.b G.T.builtins G.T.nolimit hgn hobj hints (Nat.le_trans hlen hn2) hr1 hF1 hb1 (fun H hO1 hS1 => hsp1 w H a ns hlen hO1 hS1)
end FS

set_option Elab.async false
set_option linter.all false
set_option maxRecDepth 100000
set_option maxHeartbeats 4000000
/-! What both laws on errors use: an error's class, a made error, plain values that repr shows, isinstance over a list of errors. -/
namespace FS
open PySem PySem.Spec PyProof.Rows L2
/-! ### heaps -/
theorem same_new {H : Hp} {p : Addr} {o : HO} (h : H p = none) : Same H (upd H p o) := fun b x e => by
  rw [upd_ne (ne_of_none e h)]; exact e
/-- all but p as it was -/
def Off (p : Addr) (H H' : Hp) : Prop := ∀ b o, b ≠ p → H b = some o → H' b = some o
theorem Off.of {p : Addr} {H H' : Hp} (h : Same H H') : Off p H H' := fun b o _ e => h b o e
theorem Off.trans {p : Addr} {H H1 H2 : Hp} (h : Off p H H1) (k : Off p H1 H2) : Off p H H2 := fun b o n e => k b o n (h b o n e)
theorem Off.put {p : Addr} {H : Hp} {o : HO} : Off p H (upd H p o) := fun b x n e => by rw [upd_ne n]; exact e
theorem Off.same {p : Addr} {H H1 H2 : Hp} (h : Same H H1) (hp : H p = none) (k : Off p H1 H2) : Same H H2 := fun b o e => k b o (ne_of_none e hp) (h b o e)
/-! ### plain values -/
mutual
theorem Dp_mono {K : PySem.W.Frag} {H H' : Hp} (s : Same H H') : ∀ (d : PyData) (v : V), Dp K H v d → Dp K H' v d
  | .none, _, h => by cases h; exact .non
  | .bool b, _, h => by cases h; exact .bl b
  | .int i, _, h => by cases h; exact .int i
  | .str x, _, h => by cases h; exact .str x
  | .list ds, _, h => by
    cases h with
    | lst hs ha => exact .lst (s.seq hs) (DpAll_mono s ds _ ha)
  | .tuple ds, _, h => by
    cases h with
    | tup hs ha =>
      refine .tup ?_ (DpAll_mono s ds _ ha)
      rcases hs with (h | ⟨o, h⟩) | h
      · exact .inl (.inl (s _ _ h))
      · exact .inl (.inr ⟨o, s _ _ h⟩)
      · exact .inr h
  | .dict _, _, h => by cases h
theorem DpAll_mono {K : PySem.W.Frag} {H H' : Hp} (s : Same H H') : ∀ (ds : List PyData) (vs : List V), DpAll K H vs ds → DpAll K H' vs ds
  | [], _, h => by cases h; exact .nil
  | d :: ds, _, h => by
    cases h with
    | cons h1 h2 => exact .cons (Dp_mono s d _ h1) (DpAll_mono s ds _ h2)
end
/-- a value that repr shows shortly -/
def Nice (K : PySem.W.Frag) (H : Hp) (v : V) (d : PyData) : Prop := Dq K H v d ∧ d.showable = true ∧ d.depth ≤ 5 ∧ d.shown.length ≤ 40
theorem Dq_mono {K : PySem.W.Frag} {H H' : Hp} {v : V} {d : PyData} (s : Same H H') (h : Dq K H v d) : Dq K H' v d := by
  cases h with
  | dp h hd => exact .dp (Dp_mono s d v h) hd
  | emp h => exact .emp (s _ _ h)
theorem Nice.mono {K : PySem.W.Frag} {H H' : Hp} {v : V} {d : PyData} (s : Same H H') (h : Nice K H v d) : Nice K H' v d := ⟨Dq_mono s h.1, h.2⟩
inductive NiceAll (K : PySem.W.Frag) (H : Hp) : List V → List PyData → Prop
  | nil : NiceAll K H [] []
  | cons {v : V} {vs : List V} {d : PyData} {ds : List PyData} : Nice K H v d → NiceAll K H vs ds → NiceAll K H (v :: vs) (d :: ds)
theorem NiceAll.dq {K : PySem.W.Frag} {H : Hp} : ∀ {vs : List V} {ds : List PyData}, NiceAll K H vs ds → DqAll K H vs ds
  | _, _, .nil => .nil
  | _, _, .cons h t => .cons h.1 t.dq
theorem NiceAll.show {K : PySem.W.Frag} {H : Hp} : ∀ {vs : List V} {ds : List PyData}, NiceAll K H vs ds → PyData.showableAll ds = true
  | _, _, .nil => by simp [PyData.showableAll]
  | _, _, .cons h t => by simp only [PyData.showableAll, h.2.1, t.show, Bool.and_self]
theorem NiceAll.depth {K : PySem.W.Frag} {H : Hp} : ∀ {vs : List V} {ds : List PyData}, NiceAll K H vs ds → PyData.depthAll ds ≤ 30
  | _, _, .nil => by simp [PyData.depthAll]
  | _, _, .cons h t => by
    simp only [PyData.depthAll]
    have h1 := h.2.2.1
    have h2 := t.depth
    omega
theorem text_len : ∀ (ts : List Str) (k : Nat) (acc : Str), (∀ t ∈ ts, t.length ≤ 40) → (textFrom k acc ts).length ≤ acc.length + 42 * ts.length
  | [], k, acc, _ => Nat.le_refl _
  | t :: r, k, acc, h => by
    have h1 := h t (List.mem_cons_self ..)
    have h2 : (Str.ofString "").length = 0 := by decide
    have h3 : (Str.ofString ", ").length = 2 := by decide
    unfold textFrom
    refine Nat.le_trans (text_len r _ _ (fun x hx => h x (List.mem_cons_of_mem _ hx))) ?_
    rw [List.length_cons]
    repeat rw [strLen_append]
    split <;> omega
theorem NiceAll.len {K : PySem.W.Frag} {H : Hp} : ∀ {vs : List V} {ds : List PyData}, NiceAll K H vs ds → (PyData.shownAll ds).length = vs.length ∧ ∀ t ∈ PyData.shownAll ds, t.length ≤ 40
  | _, _, .nil => ⟨by simp [PyData.shownAll], fun t h => by simp [PyData.shownAll] at h⟩
  | _, _, .cons h t => by
    obtain ⟨h1, h2⟩ := t.len
    simp only [PyData.shownAll]
    refine ⟨by rw [List.length_cons, List.length_cons, h1], fun x hx => ?_⟩
    rcases List.mem_cons.mp hx with rfl | hx
    · exact h.2.2.2
    · exact h2 x hx
theorem NiceAll.size {K : PySem.W.Frag} {H : Hp} {vs : List V} {ds : List PyData} (h : NiceAll K H vs ds) (hv : vs.length ≤ 1000) : (listText (PyData.shownAll ds)).length ≤ sizeLine := by
  obtain ⟨h1, h2⟩ := h.len
  have h3 := text_len (PyData.shownAll ds) 0 "[" h2
  have h4 : (Str.ofString "[").length = 1 := by decide
  have h5 : (Str.ofString "]").length = 1 := by decide
  unfold listText
  rw [strLen_append, sizeLine_eq]
  rw [h1] at h3
  omega
end FS

set_option Elab.async false
set_option linter.all false
set_option maxRecDepth 100000
set_option maxHeartbeats 4000000
namespace FS
open PySem PySem.Spec PyProof.Rows L2
/-! ### an error's class -/
structure EC (K : PySem.W.Frag) (mg : Str → Option Value) (nm : Str) (C fI : Addr) : Prop where
  oex : OexC K C
  gC : mg nm = some (.ref C)
  iC : PySem.W.findIn K (.ref C) "__init__" = some (some (.ref fI))
  tI : PySem.W.typeIn K (.ref fI) = some (.type "function")
  xf : XfC K C
  ec : ExcC K C
theorem ec_mk {K : PySem.W.Frag} {h : Heap} {mg : Str → Option Value} (X : K.In h) (G : h.Ns mainGlobals mg) {nm : Str} {C fI : Addr} {n1 q : Str} {N : Addr} {bs bm : List Value} {sn : List Str} {sub : List Value} {ab : Bool} {col : Option Bool} {dd : Option Addr} {m0 m1 m2 m3 m5 : Option Value}
    (aC : PySem.W.nsIn K mainGlobals nm = some (some (.ref C))) (xL : K.lookup C = some (excClassObj n1 q C N bs bm true sn sub ab col dd m0 m1 m2 m3 m5 "ValueError.__new__")) (bmv : PySem.HandSPX.refsVE bm = true)
    (sa : PySem.W.findIn K (.ref C) "__setattr__" = some (some (.builtin "object.__setattr__"))) (ga : PySem.W.findIn K (.ref C) "__getattribute__" = some (some (.builtin "BaseException.__getattribute__"))) (gg : PySem.W.findIn K (.ref C) "__getattr__" = some none)
    (a1 : PySem.W.findIn K (.ref C) "__init__" = some (some (.ref fI))) (t1 : PySem.W.typeIn K (.ref fI) = some (.type "function")) (kC : PySem.W.keepIn K (.ref C) = true) (eC : PySem.W.subIn K (.ref C) (.type "BaseException") = some true)
    (tC : PySem.W.typeIn K (.ref C) = some (.type "type")) (hC : PySem.W.hasDictIn K C = true) (cC : PySem.W.findIn K (.ref C) "__class__" = some (some (.builtin "object.__class__"))) (mC : PySem.W.mroIn K C (.type "object") = some true)
    (hn : PySem.W.specialIn K (.builtin "object.__class__") "__get__" = some (some (.builtin "getset_descriptor.__get__"))) (ht : PySem.W.takesIn K (.builtin "object.__class__") = some true) : EC K mg nm C fI :=
  ⟨⟨⟨n1, q, N, bs, bm, sn, sub, ab, col, dd, m0, m1, m2, m3, m5, xL, bmv⟩, sa, eC, tC, kC⟩, PySem.W.mg_of X G aC, a1, t1, ⟨ga, gg, eC, hC⟩, ⟨ga, gg, eC, hC, cC, hn, ht, mC⟩⟩
/-- isinstance's answer over classes -/
theorem kit_own {K : PySem.W.Frag} {D C : Addr} {b : Bool} (hd : PySem.W.hasDictIn K C = true) (ty : PySem.W.typeIn K (.ref C) = some (.type "type")) (h : PySem.W.subIn K (.ref D) (.ref C) = some b) (hb : D = C → b = true) : PySem.W.kitOne K (.ref D) (.ref C) = some b := by
  unfold PySem.W.kitOne
  by_cases e : D = C
  · subst e
    rw [if_pos (by simp), hb rfl]
  · have ne : ((Value.ref D) == (Value.ref C)) = false := beq_eq_false_iff_ne.mpr fun q => e (Value.ref.inj q)
    rw [ne, if_neg Bool.false_ne_true]
    obtain ⟨cd, hc, _⟩ := PySem.W.any_some hd
    show (if ((PySem.W.clsIn K C).isSome && PySem.W.typeIn K (.ref C) == some (.type "type")) = true then PySem.W.subIn K (.ref D) (.ref C) else none) = some b
    rw [if_pos (by rw [hc, ty] <;> rfl)]
    exact h
theorem kit_ve {K : PySem.W.Frag} {D : Addr} {b : Bool} (h : PySem.W.subIn K (.ref D) (.type "ValueError") = some b) : PySem.W.kitOne K (.ref D) (.type "ValueError") = some b := by
  unfold PySem.W.kitOne
  have ne : ((Value.ref D) == (Value.type "ValueError")) = false := beq_eq_false_iff_ne.mpr fun q => nomatch q
  rw [ne, if_neg Bool.false_ne_true]
  show (if PySem.W.kitMeta "ValueError" = true then PySem.W.subIn K (.ref D) (.type "ValueError") else none) = some b
  rw [if_pos (by decide +kernel)]
  exact h
/-! ### an error made -/
def ErrAt (H : Hp) (a C : Addr) (fs : List (Str × V)) : Prop := ∃ d, H a = some (exo a C (some d)) ∧ H d = some (exd d fs)
theorem ErrAt.mono {H H' : Hp} {a C : Addr} {fs : List (Str × V)} (s : Same H H') (h : ErrAt H a C fs) : ErrAt H' a C fs := by
  obtain ⟨d, h1, h2⟩ := h
  exact ⟨d, s _ _ h1, s _ _ h2⟩
def spI1 (C : Addr) (f : Str) : Sp := fun vs H Q _ => ∃ (a : Addr) (v : V), vs = [.ref a, v] ∧ H a = some (exo a C none) ∧ ∀ H', Off a H H' → ErrAt H' a C [(f, v)] → Q .non H'
def spI2 (C : Addr) (f g : Str) : Sp := fun vs H Q _ => ∃ (a : Addr) (v u : V), vs = [.ref a, v, u] ∧ H a = some (exo a C none) ∧ ∀ H', Off a H H' → ErrAt H' a C [(g, u), (f, v)] → Q .non H'
def spI3 (C : Addr) (f g i : Str) : Sp := fun vs H Q _ => ∃ (a : Addr) (v u x : V), vs = [.ref a, v, u, x] ∧ H a = some (exo a C none) ∧ ∀ H', Off a H H' → ErrAt H' a C [(i, x), (g, u), (f, v)] → Q .non H'
theorem off_first {H : Hp} {a dx C : Addr} {u : HO} (n : H dx = none) : Off a H (upd (upd H dx u) a (exo a C (some dx))) := fun b o hb e => by rw [upd_ne hb, upd_ne (ne_of_none e n)]; exact e
theorem err_first {H : Hp} {a dx C : Addr} {fs : List (Str × V)} (ne : dx ≠ a) : ErrAt (upd (upd H dx (exd dx fs)) a (exo a C (some dx))) a C fs := ⟨dx, upd_same, by rw [upd_ne ne, upd_same]⟩
theorem err_next {H : Hp} {a dx C : Addr} {fs : List (Str × V)} (ne : dx ≠ a) (h : H a = some (exo a C (some dx))) : ErrAt (upd H dx (exd dx fs)) a C fs := ⟨dx, by rw [upd_ne ne.symm]; exact h, upd_same⟩
section
variable {P : Program} {w : World} {K : PySem.W.Frag} {mg : Str → Option Value} {base : Heap} {H : Hp} {C : Addr} {f g i : Str} {Q : VK}
theorem mk1 {v : V} (h : ∀ a H', Same H H' → H a = none → ErrAt H' a C [(f, v)] → Q (.ref a) H') :
    [v].length ≤ 1000 ∧ ∀ a, H a = none → spI1 C f (.ref a :: ([v] ++ [])) (upd H a (exo a C none)) (fun v H2 => v = .non ∧ Q (.ref a) H2) (fun _ _ _ => False) :=
  ⟨by simp, fun a na => ⟨a, v, rfl, upd_same, fun H' o e => ⟨rfl, h a H' (Off.same (same_new na) na o) na e⟩⟩⟩
theorem mk2 {v u : V} (h : ∀ a H', Same H H' → H a = none → ErrAt H' a C [(g, u), (f, v)] → Q (.ref a) H') :
    [v, u].length ≤ 1000 ∧ ∀ a, H a = none → spI2 C f g (.ref a :: ([v, u] ++ [])) (upd H a (exo a C none)) (fun v H2 => v = .non ∧ Q (.ref a) H2) (fun _ _ _ => False) :=
  ⟨by simp, fun a na => ⟨a, v, u, rfl, upd_same, fun H' o e => ⟨rfl, h a H' (Off.same (same_new na) na o) na e⟩⟩⟩
theorem mk3 {v u x : V} (h : ∀ a H', Same H H' → H a = none → ErrAt H' a C [(i, x), (g, u), (f, v)] → Q (.ref a) H') :
    [v, u, x].length ≤ 1000 ∧ ∀ a, H a = none → spI3 C f g i (.ref a :: ([v, u, x] ++ [])) (upd H a (exo a C none)) (fun v H2 => v = .non ∧ Q (.ref a) H2) (fun _ _ _ => False) :=
  ⟨by simp, fun a na => ⟨a, v, u, x, rfl, upd_same, fun H' o e => ⟨rfl, h a H' (Off.same (same_new na) na o) na e⟩⟩⟩
end
/-! ### isinstance over a list of errors -/
inductive Isi (K : PySem.W.Frag) (H : Hp) (cv : Value) : List V → List Bool → Prop
  | nil : Isi K H cv [] []
  | cons {a C : Addr} {fs : List (Str × V)} {b : Bool} {vs : List V} {bs : List Bool} : ErrAt H a C fs → ExcC K C → PySem.W.kitOne K (.ref C) cv = some b → Isi K H cv vs bs → Isi K H cv (.ref a :: vs) (b :: bs)
theorem Isi.mono {K : PySem.W.Frag} {H H' : Hp} {cv : Value} (s : Same H H') : ∀ {vs : List V} {bs : List Bool}, Isi K H cv vs bs → Isi K H' cv vs bs
  | _, _, .nil => .nil
  | _, _, .cons h1 h2 h3 t => .cons (h1.mono s) h2 h3 (t.mono s)
theorem Isi.get {K : PySem.W.Frag} {H : Hp} {cv : Value} : ∀ {vs : List V} {bs : List Bool} {i : Nat} {v : V}, Isi K H cv vs bs → vs[i]? = some v → ∃ a C fs b, v = .ref a ∧ ErrAt H a C fs ∧ ExcC K C ∧ PySem.W.kitOne K (.ref C) cv = some b ∧ bs[i]? = some b
  | _, _, i, v, .nil, e => by simp at e
  | _, _, 0, v, .cons h1 h2 h3 t, e => by
    simp at e
    exact ⟨_, _, _, _, e.symm, h1, h2, h3, by simp⟩
  | _, _, i + 1, v, .cons h1 h2 h3 t, e => by
    simp at e
    obtain ⟨a, C, fs, b, r⟩ := t.get e
    exact ⟨a, C, fs, b, r.1, r.2.1, r.2.2.1, r.2.2.2.1, by simpa using r.2.2.2.2⟩
theorem Isi.len {K : PySem.W.Frag} {H : Hp} {cv : Value} : ∀ {vs : List V} {bs : List Bool}, Isi K H cv vs bs → bs.length = vs.length
  | _, _, .nil => rfl
  | _, _, .cons _ _ _ t => by rw [List.length_cons, List.length_cons, t.len]
/-- one isinstance -/
theorem isi_one {K : PySem.W.Frag} {H : Hp} {a C : Addr} {fs : List (Str × V)} {b : Bool} {c : V} {cv : Value} {Q : VK} (h1 : ErrAt H a C fs) (h2 : ExcC K C) (hc : ∀ u, RelV c u → u = cv) (h3 : PySem.W.kitOne K (.ref C) cv = some b) (q : Q (.bl b) H) : rIsO K [.ref a, c] H Q := by
  obtain ⟨d, e1, e2⟩ := h1
  exact ⟨a, C, d, fs, c, cv, b, rfl, e1, e2, h2, hc, h3, q⟩
/-- [isinstance(x, c) for x in xs] -/
theorem comp_isi {K : PySem.W.Frag} {i j : Nat} {σ : L2.St} {H : Hp} {Q : VK} {l : Addr} {vs : List V} {bs : List Bool} {c : V} {cv : Value} (h1 : σ[i]? = some (some (.ref l))) (hl : SqL K H l vs) (hv : Isi K H cv vs bs) (hc : ∀ u, RelV c u → u = cv) (hz : vs.length ≤ 100) (hj : j < σ.length)
    (hq : ∀ D H', Same H H' → H' D = some (.lst (bs.map .bl)) → Q (.ref D) H') : tLc (iList K (tVar i)) (gName j) tYes (tCB (rIsO K) (tCons (tVar j) (tCons (tC c) tNil))) [j] σ H Q := by
  refine ⟨_, h1, l, rfl, ⟨_, hl⟩, fun D hD => ?_⟩
  have s0 : Same H (upd H D (.lst [])) := same_new hD
  refine lc_list (xs := vs) (fun i H' => Same H H' ∧ H' D = some (.lst ((bs.take i).map .bl))) ⟨s0, upd_same⟩ (fun _ _ _ h => h.1.seq hl) (fun k x H' hx ⟨s, hd⟩ => ?_) (fun H' ⟨s, hd⟩ => hq D H' s ?_)
  · obtain ⟨a, C, fs, b, rfl, e1, e2, e3, e4⟩ := (hv.mono s).get hx
    refine ⟨by simp [wipe], ?_⟩
    refine ⟨.ref a, by simp [wipe, hj], ?_⟩
    dsimp only [tCons, tC, tNil]
    refine isi_one e1 e2 hc e3 ⟨_, hd, ?_, ?_, ?_⟩
    · rw [List.length_map, List.length_take]
      have := hv.len
      exact small1000 (by omega)
    · intro b' o e
      rw [upd_ne (ne_of_none e hD)]
      exact s _ _ e
    · rw [upd_same, List.take_add_one, e4, List.map_append]
      rfl
  · rw [hd, ← hv.len, List.take_length]
end FS

set_option Elab.async false
set_option linter.all false
set_option maxRecDepth 100000
set_option maxHeartbeats 4000000
namespace FS
open PySem PySem.Spec PyProof.Rows L2
section
variable {K : PySem.W.Frag} {H : Hp} {Q : VK}
theorem mkL {xs : List V} (hl : xs.length ≤ 1000) (h : ∀ p H', Same H H' → H p = none → H' p = some (.lst xs) → Q (.ref p) H') : xs.length ≤ sizeLine ∧ ∀ p, H p = none → Q (.ref p) (upd H p (.lst xs)) :=
  ⟨Nat.le_of_lt (small1000 hl), fun p np => h p _ (same_new np) np upd_same⟩
theorem mkT {xs : List V} (hl : xs.length ≤ 1000) (h : ∀ p H', Same H H' → H p = none → H' p = some (.tup xs) → Q (.ref p) H') : xs.length ≤ sizeLine ∧ ∀ p, H p = none → Q (.ref p) (upd H p (.tup xs)) :=
  ⟨Nat.le_of_lt (small1000 hl), fun p np => h p _ (same_new np) np upd_same⟩
theorem mkD (h : ∀ p H', Same H H' → H p = none → H' p = some (.dK []) → Q (.ref p) H') : ∀ p, H p = none → Q (.ref p) (upd H p (.dK [])) := fun p np => h p _ (same_new np) np upd_same
theorem mkCat {l b : Addr} {xs zs : List V} (hl : H l = some (.lst xs)) (hb : H b = some (.lst zs)) (hz : xs.length + zs.length ≤ 1000) (h : ∀ p H', Same H H' → H' p = some (.lst (xs ++ zs)) → Q (.ref p) H') : rCat (.ref l) (.ref b) H Q :=
  ⟨l, b, xs, zs, rfl, rfl, hl, hb, Nat.le_of_lt (small1000 hz), fun p np => h p _ (same_new np) upd_same⟩
theorem rp {a : Addr} {v : V} {vs : List V} {ds : List PyData} (ha : H a = some (.lst (v :: vs))) (hn : NiceAll K H (v :: vs) ds) (hl : (v :: vs).length ≤ 1000) (q : Q (.str (listText (PyData.shownAll ds))) H) : rReprL K [.ref a] H Q :=
  ⟨a, v, vs, ds, rfl, ha, hn.dq, hn.show, hn.depth, hn.size hl, q⟩
theorem rd_at {σ : L2.St} {l a C : Addr} {xs : List V} {i : Int} {j : Nat} {fs : List (Str × V)} {n : Str} {v : V} (hj : σ[j]? = some (some (.ref l))) (hL : H l = some (.lst xs)) (hx : atI xs i = some (.ref a)) (he : ErrAt H a C fs) (T : XfC K C)
    (no : PySem.W.findIn K (.ref C) n = some none) (hl : fs.lookup n = some v) (q : Q v H) : tXo K n (tOp (rIxL K) (tVar j) (tC (.int i))) σ H Q := by
  obtain ⟨d, h1, h2⟩ := he
  exact ⟨_, hj, l, xs, i, _, rfl, rfl, SqL.of hL, hx, a, C, d, fs, v, rfl, h1, h2, T, no, hl, q⟩
theorem dp_bools {a : Addr} {bs : List Bool} (h : H a = some (.lst (bs.map V.bl))) : Dp K H (.ref a) (.list (bs.map PyData.bool)) := by
  refine .lst (SqL.of h) ?_
  clear h
  induction bs with
  | nil => exact .nil
  | cons b r ih => exact .cons (.bl b) ih
/-- [spot == other for other in range(n)] -/
theorem comp_eq {σ : L2.St} {i j n : Nat} {z : Int} (hi : σ[i]? = some (some (.int z))) (hj : j < σ.length) (hne : i ≠ j) (hn : n ≤ 1000)
    (hq : ∀ D H', Same H H' → H' D = some (.lst ((List.range n).map fun k : Nat => V.bl (decide (V.int z = V.int (0 + (k : Int)))))) → Q (.ref D) H') : tLc (iRng1 (tCons (tC (.int (n : Int))) tNil)) (gName j) tYes (tOp rEq (tVar i) (tVar j)) [j] σ H Q := by
  refine ⟨(n : Int), rfl, by omega, by omega, fun D hD => ?_⟩
  refine lc_range (lo := 0) (n := n) (fun k H' => Same H H' ∧ H' D = some (.lst ((List.range k).map fun k : Nat => V.bl (decide (V.int z = V.int (0 + (k : Int))))))) ⟨same_new hD, upd_same⟩ (fun k H' hk ⟨s, hd⟩ => ?_) (fun H' ⟨s, hd⟩ => hq D H' s hd)
  refine ⟨by simp [wipe], ?_⟩
  refine ⟨.int z, ?_, .int (0 + (k : Int)), by simp [wipe, hj], rfl, _, hd, ?_, ?_, ?_⟩
  · simp [wipe, List.getElem?_set, hne.symm, hi]
  · rw [List.length_map, List.length_range]
    exact small1000 (by omega)
  · intro b o e
    rw [upd_ne (ne_of_none e hD)]
    exact s _ _ e
  · rw [upd_same, List.range_succ, List.map_append]
    rfl
theorem off_second {a dx C : Addr} {u1 u2 : HO} (n : H dx = none) : Off a H (upd (upd (upd H dx u1) a (exo a C (some dx))) dx u2) := fun b o hb e => by rw [upd_ne (ne_of_none e n), upd_ne hb, upd_ne (ne_of_none e n)]; exact e
theorem off_third {a dx C : Addr} {u1 u2 u3 : HO} (n : H dx = none) : Off a H (upd (upd (upd (upd H dx u1) a (exo a C (some dx))) dx u2) dx u3) := fun b o hb e => by rw [upd_ne (ne_of_none e n), upd_ne (ne_of_none e n), upd_ne hb, upd_ne (ne_of_none e n)]; exact e
end
end FS

set_option Elab.async false
set_option linter.all false
set_option maxRecDepth 100000
set_option maxHeartbeats 4000000
namespace FS
open PySem PySem.Spec PyProof.Rows L2
/-! Rules whose readings hand on a heap by a letter: what stood stands, and the new thing is there. -/
section
variable {X : Cx} {e : Expr} {es : List Expr} {te : TE} {t : TA} {p pos : Pos}
theorem pe_imp {t' : TE} (h : PE X e te) (i : ∀ σ H Q, t' σ H Q → te σ H Q) : PE X e t' := ⟨fun pins s σ H Q I q => h.run pins s σ H Q I (i σ H Q q)⟩
def tLstS (t : TA) : TE := fun σ H Q => t σ H fun xs H1 => xs.length ≤ 1000 ∧ ∀ p H', Same H1 H' → H1 p = none → H' p = some (.lst xs) → Q (.ref p) H'
def tTupS (t : TA) : TE := fun σ H Q => t σ H fun xs H1 => xs.length ≤ 1000 ∧ ∀ p H', Same H1 H' → H1 p = none → H' p = some (.tup xs) → Q (.ref p) H'
def tDictS : TE := fun _ H Q => ∀ p H', Same H H' → H p = none → H' p = some (.dK []) → Q (.ref p) H'
theorem pe_lstS (h : PA X es t) : PE X (.List es pos) (tLstS t) := by
  refine ⟨fun pins s0 σ H Q I hq => ?_⟩
  refine wpAny_List_spliced (thn (h.run pos pins s0 σ H _ I hq) fun us s1 ⟨xs, H1, I1, r, z, q⟩ => ⟨by rw [← r.length]; exact Nat.le_of_lt (small1000 z), ?_⟩)
  have nf : H1 s1.heap.objs.size = none := I1.hok.fresh (Nat.le_refl _)
  refine ⟨.ref s1.heap.objs.size, upd H1 s1.heap.objs.size (.lst xs), I1.laid (t' := s1.toks) (fun b u e1 => Heap.get?_push_of_some _ e1) (Nat.le_refl _) ?_, rfl, q _ _ (same_new nf) nf upd_same⟩
  exact ⟨Nat.le_of_lt (small1000 z), us, 0, r, Heap.get?_push_size _ rfl⟩
theorem pe_tupS {x1} (h : PA X es t) : PE X (.Tuple es x1 pos) (tTupS t) := by
  refine ⟨fun pins s0 σ H Q I hq => ?_⟩
  refine wpAny_Tuple_spliced (thn (h.run pos pins s0 σ H _ I hq) fun us s1 ⟨xs, H1, I1, r, z, q⟩ => ⟨by rw [← r.length]; exact Nat.le_of_lt (small1000 z), ?_⟩)
  have nf : H1 s1.heap.objs.size = none := I1.hok.fresh (Nat.le_refl _)
  refine ⟨.ref s1.heap.objs.size, upd H1 s1.heap.objs.size (.tup xs), I1.laid (t' := s1.toks) (fun b u e1 => Heap.get?_push_of_some _ e1) (Nat.le_refl _) ?_, rfl, q _ _ (same_new nf) nf upd_same⟩
  exact ⟨Nat.le_of_lt (small1000 z), us, r, ⟨_, Heap.get?_push_size _ rfl, rfl, _, rfl⟩⟩
theorem pe_dictS : PE X (.Dict [] [] pos) tDictS := pe_imp pe_dnewK fun σ H Q h p np => h p _ (same_new np) np upd_same
def rCatS : R2 := fun x y H Q => ∃ l b xs zs, x = .ref l ∧ y = .ref b ∧ H l = some (.lst xs) ∧ H b = some (.lst zs) ∧ xs.length + zs.length ≤ 1000 ∧ ∀ p H', Same H H' → H p = none → H' p = some (.lst (xs ++ zs)) → Q (.ref p) H'
theorem op_catS : OpR X (binaryOp .Add) rCatS := fun pins s σ H x y v u Q I rx ry ⟨l, b, xs, zs, e1, e2, h1, h2, hz, q⟩ =>
  op_cat pins s σ H x y v u Q I rx ry ⟨l, b, xs, zs, e1, e2, h1, h2, Nat.le_of_lt (small1000 hz), fun p np => q p _ (same_new np) np upd_same⟩
def rRepS : R2 := fun x y H Q => ∃ l k xs, x = .ref l ∧ y = .int k ∧ H l = some (.lst xs) ∧ 0 ≤ k ∧ k < 1000 ∧ xs.length * k.toNat ≤ 1000 ∧ ∀ p H', Same H H' → H p = none → H' p = some (.lst ((List.replicate k.toNat xs).flatten)) → Q (.ref p) H'
def tMk1 (C : Addr) (f : Str) (i : Nat) : TE := fun σ H Q => ∃ v, σ[i]? = some (some v) ∧ ∀ a H', Same H H' → H a = none → ErrAt H' a C [(f, v)] → Q (.ref a) H'
def tMk2 (C : Addr) (f g : Str) (i j : Nat) : TE := fun σ H Q => ∃ v u, σ[i]? = some (some v) ∧ σ[j]? = some (some u) ∧ ∀ a H', Same H H' → H a = none → ErrAt H' a C [(g, u), (f, v)] → Q (.ref a) H'
def tMk3 (C : Addr) (f g k : Str) (i j m : Nat) : TE := fun σ H Q => ∃ v u x, σ[i]? = some (some v) ∧ σ[j]? = some (some u) ∧ σ[m]? = some (some x) ∧ ∀ a H', Same H H' → H a = none → ErrAt H' a C [(k, x), (g, u), (f, v)] → Q (.ref a) H'
theorem pe_mk1 {C : Addr} {f : Str} {i : Nat} (h : PE X e (tMkV C (spI1 C f) [] (tCons (tVar i) tNil))) : PE X e (tMk1 C f i) := pe_imp h fun σ H Q ⟨v, e1, q⟩ => ⟨v, e1, mk1 q⟩
theorem pe_mk2 {C : Addr} {f g : Str} {i j : Nat} (h : PE X e (tMkV C (spI2 C f g) [] (tCons (tVar i) (tCons (tVar j) tNil)))) : PE X e (tMk2 C f g i j) := pe_imp h fun σ H Q ⟨v, u, e1, e2, q⟩ => ⟨v, e1, u, e2, mk2 q⟩
theorem pe_mk3 {C : Addr} {f g k : Str} {i j m : Nat} (h : PE X e (tMkV C (spI3 C f g k) [] (tCons (tVar i) (tCons (tVar j) (tCons (tVar m) tNil))))) : PE X e (tMk3 C f g k i j m) := pe_imp h fun σ H Q ⟨v, u, x, e1, e2, e3, q⟩ => ⟨v, e1, u, e2, x, e3, mk3 q⟩
def tCI (K : PySem.W.Frag) (i j : Nat) (c : V) : TE := fun σ H Q => ∃ (l : Addr) (vs : List V) (bs : List Bool) (cv : Value), σ[i]? = some (some (.ref l)) ∧ SqL K H l vs ∧ Isi K H cv vs bs ∧ (∀ u, RelV c u → u = cv) ∧ vs.length ≤ 100 ∧ j < σ.length ∧ ∀ D H', Same H H' → H' D = some (.lst (bs.map .bl)) → Q (.ref D) H'
theorem pe_ci {K : PySem.W.Frag} {i j : Nat} {c : V} (h : PE X e (tLc (iList K (tVar i)) (gName j) tYes (tCB (rIsO K) (tCons (tVar j) (tCons (tC c) tNil))) [j])) : PE X e (tCI K i j c) :=
  pe_imp h fun σ H Q ⟨l, vs, bs, cv, h1, h2, h3, h4, h5, h6, q⟩ => comp_isi h1 h2 h3 h4 h5 h6 q
def tCE (i j n : Nat) : TE := fun σ H Q => ∃ z : Int, σ[i]? = some (some (.int z)) ∧ j < σ.length ∧ ∀ D H', Same H H' → H' D = some (.lst ((List.range n).map fun k : Nat => V.bl (decide (V.int z = V.int (0 + (k : Int)))))) → Q (.ref D) H'
theorem pe_ce {i j n : Nat} (hne : i ≠ j) (hn : n ≤ 1000) (h : PE X e (tLc (iRng1 (tCons (tC (.int (n : Int))) tNil)) (gName j) tYes (tOp rEq (tVar i) (tVar j)) [j])) : PE X e (tCE i j n) := pe_imp h fun σ H Q ⟨z, h1, h2, q⟩ => comp_eq h1 h2 hne hn q
def tRep (K : PySem.W.Frag) (te : TE) : TE := fun σ H Q => te σ H fun x H1 => rReprL K [x] H1 Q
theorem pe_rep {K : PySem.W.Frag} (h : PE X e (tCB (rReprL K) (tCons te tNil))) : PE X e (tRep K te) := pe_imp h fun _ _ _ q => q
def tIsi (K : PySem.W.Frag) (te : TE) (c : V) : TE := fun σ H Q => te σ H fun x H1 => rIsO K [x, c] H1 Q
theorem pe_isi {K : PySem.W.Frag} {c : V} (h : PE X e (tCB (rIsO K) (tCons te (tCons (tC c) tNil)))) : PE X e (tIsi K te c) := pe_imp h fun _ _ _ q => q
end
end FS

set_option Elab.async false
set_option linter.all false
set_option maxRecDepth 100000
set_option maxHeartbeats 4000000
namespace K12
open PySem PySem.Spec PyProof.Rows L2 FS
def top (i : Nat) : Stmt := PySem.Challenge.pw_foldsame_k12_errors.main.body.getD i (.Pass ⟨0, 0, 0, 0⟩)
abbrev sPool : Stmt := top 11
abbrev sTake : Stmt := top 12
abbrev sVals : Stmt := top 13
abbrev sLaw : Stmt := top 14
abbrev sI (i : Nat) : Stmt := inClass (top i) 0
section
variable {P : Program} {w : World} {K : PySem.W.Frag} {mg : Str → Option Value} {base : Heap}
theorem b01 (c : Bool) : 0 ≤ (if c = true then (1 : Int) else 0) := by cases c <;> decide
theorem b01w (c : Bool) : -2 ^ 64 < (if c = true then (1 : Int) else 0) ∧ (if c = true then (1 : Int) else 0) < 2 ^ 64 := by cases c <;> decide
/-! ### _law_pool -/
def spPool (K : PySem.W.Frag) : Sp := fun vs H Q _ => ∃ (a : Addr) (ns : List Int) (k : Nat), vs = [.ref a, .int k] ∧ SqL K H a (ns.map V.int) ∧ k < 3 ∧ ns.length ≤ 63 ∧
  ∀ H' p (g s : Int), Same H H' → H p = none → H' p = some (.lst [.int g, .int s]) → 0 ≤ g → 0 ≤ s → s < 2147483647 → Q (.ref p) H'
theorem scP : FnScope ["_law_script", "_law_k", "_law_cell", "_law_great", "_law_seed"] ["_law_script", "_law_k"] (defScope sPool) := ⟨rfl, rfl, rfl, by decide +kernel, rfl, by decide +kernel, by decide +kernel⟩
theorem ok_pool {f : Addr} {fd : FuncData} {k : Nat} (F : Fun K "_law_pool" "_law_pool" sPool f fd) (ml : mg "len" = none) (ma : mg "abs" = none) (mi : mg "int" = none) : FnOk P w K mg base CX0 (k + 1) f fd ["_law_script", "_law_k"] (spPool K) := by
  refine F.ok scP (fun vs H Q E h => ?_) (fun cdv A outer s H vs Q E hr h => ?_)
  · obtain ⟨a, ns, k, rfl, _⟩ := h
    rfl
  · obtain ⟨a, ns, k, rfl, hS, hk, hlen, q⟩ := h
    refine ⟨_, pss_cons (ps_set (i := 2) scP.nd rfl (.inl rfl) pe_int)
      (pss_cons (ps_if (pt_cmpR op_lt (pv 1) (pe_callB call_len_seq (by rfl) ml PySem.boot_len (pa_cons (pv 0) pa_nil)) (nomark _))
          (pss_one (ps_set (i := 2) scP.nd rfl (.inl rfl) (pe_ix ix_list (pv 0) (pv 1) (fun _ _ => rfl)))) pss_nil)
      (pss_cons (ps_set (i := 3) scP.nd rfl (.inl rfl) (pe_callB call_abs (by rfl) ma (by decide +kernel) (pa_cons (pv 2) pa_nil)))
      (pss_cons (ps_set (i := 4) scP.nd rfl (.inl rfl) (pe_op op_mod (pe_op op_pow (pe_op op_add (pe_op op_add (pe_op op_add (pe_op op_mod (pv 2) pe_int) (pe_op op_mul (pe_op op_mul pe_int (pv 1)) (pv 1))) (pe_op op_mul pe_int (pv 1))) pe_int) pe_int) pe_int))
      (pss_one (ps_ret (pe_lst (pa_cons (pe_op op_mul (pv 3) (pe_callTy call_int1 (by rfl) mi (by decide +kernel) (pa_cons (pe_cmpR op_ge (pv 3) (pe_op op_pow pe_int pe_int) (nomark _)) pa_nil)))
        (pa_cons (pv 4) pa_nil)))))))), ?_⟩
    refine ⟨_, rfl, _, rfl, a, _, rfl, .inl hS, _, _, rfl, rfl, _, rfl, ?_⟩
    refine ite2 (fun hc => ?_) (fun _ => ?_)
    · have hk2 : k < ns.length := by
        have h1 := of_decide_eq_true hc
        rw [List.length_map] at h1
        omega
      have g : (ns.map V.int)[k]? = some (V.int ns[k]) := by
        rw [List.getElem?_map, List.getElem?_eq_getElem hk2]
        rfl
      refine ⟨_, rfl, _, rfl, a, _, _, _, rfl, rfl, hS, atI_nat g, ?_⟩
      have hk0 : (0 : Int) ≤ (k : Int) := Int.natCast_nonneg _
      have hk3 : (k : Int) < 3 := by omega
      have hm : 0 ≤ ns[k] % 2147483629 ∧ ns[k] % 2147483629 < 2147483629 := ⟨Int.emod_nonneg _ (by decide), Int.emod_lt_of_pos _ (by decide)⟩
      have hkk : 0 ≤ 104729 * (k : Int) * (k : Int) ∧ 104729 * (k : Int) * (k : Int) ≤ 1000000 := by
        have : k = 0 ∨ k = 1 ∨ k = 2 := by omega
        rcases this with rfl | rfl | rfl <;> decide
      refine ⟨_, rfl, ns[k], rfl, ?_⟩
      refine ⟨_, rfl, _, _, rfl, rfl, (show (0 : Int) < 2147483629 by decide), _, rfl, _, _, rfl, rfl, .inl ⟨by decide, by decide⟩, _, rfl, _, _, rfl, rfl, .inr ⟨by omega, by omega⟩, _, _, rfl, rfl, _, rfl, _, _, rfl, rfl, .inl ⟨by decide, by decide⟩, _, _, rfl, rfl, _, _, rfl, rfl, _, _, rfl, rfl, ⟨by decide, by decide, ?_⟩, _, _, rfl, rfl, (show (0 : Int) < 2147483647 by decide), ?_⟩
      · omega
      refine ⟨_, rfl, _, rfl, _, _, rfl, rfl, ⟨by decide, by decide, by decide⟩, _, _, rfl, rfl, .inr ⟨_, rfl, _, _, rfl, rfl, .inr ⟨?_, ?_⟩, _, rfl, (by show 2 ≤ sizeLine; decide), fun p hp => ?_⟩⟩
      · exact (b01w _).1
      · exact (b01w _).2
      refine q _ p _ _ (same_new hp) hp upd_same ?_ (Int.emod_nonneg _ (by decide)) (Int.emod_lt_of_pos _ (by decide))
      refine Int.mul_nonneg ?_ ?_
      · split <;> omega
      · exact b01 _
    · have hk0 : (0 : Int) ≤ (k : Int) := Int.natCast_nonneg _
      have hk3 : (k : Int) < 3 := by omega
      have hm : 0 ≤ (0 : Int) % 2147483629 ∧ (0 : Int) % 2147483629 < 2147483629 := ⟨Int.emod_nonneg _ (by decide), Int.emod_lt_of_pos _ (by decide)⟩
      have hkk : 0 ≤ 104729 * (k : Int) * (k : Int) ∧ 104729 * (k : Int) * (k : Int) ≤ 1000000 := by
        have : k = 0 ∨ k = 1 ∨ k = 2 := by omega
        rcases this with rfl | rfl | rfl <;> decide
      refine ⟨_, rfl, (0 : Int), rfl, ?_⟩
      refine ⟨_, rfl, _, _, rfl, rfl, (show (0 : Int) < 2147483629 by decide), _, rfl, _, _, rfl, rfl, .inl ⟨by decide, by decide⟩, _, rfl, _, _, rfl, rfl, .inr ⟨by omega, by omega⟩, _, _, rfl, rfl, _, rfl, _, _, rfl, rfl, .inl ⟨by decide, by decide⟩, _, _, rfl, rfl, _, _, rfl, rfl, _, _, rfl, rfl, ⟨by decide, by decide, ?_⟩, _, _, rfl, rfl, (show (0 : Int) < 2147483647 by decide), ?_⟩
      · omega
      refine ⟨_, rfl, _, rfl, _, _, rfl, rfl, ⟨by decide, by decide, by decide⟩, _, _, rfl, rfl, .inr ⟨_, rfl, _, _, rfl, rfl, .inr ⟨?_, ?_⟩, _, rfl, (by show 2 ≤ sizeLine; decide), fun p hp => ?_⟩⟩
      · exact (b01w _).1
      · exact (b01w _).2
      refine q _ p _ _ (same_new hp) hp upd_same ?_ (Int.emod_nonneg _ (by decide)) (Int.emod_lt_of_pos _ (by decide))
      refine Int.mul_nonneg ?_ ?_
      · split <;> omega
      · exact b01 _
end
end K12

set_option Elab.async false
set_option linter.all false
set_option maxRecDepth 100000
set_option maxHeartbeats 4000000
namespace K12
open PySem PySem.Spec PyProof.Rows L2 FS
section
variable {P : Program} {w : World} {K : PySem.W.Frag} {mg : Str → Option Value} {base : Heap}
/-! ### _law_take -/
def spTake : Sp := fun vs H Q _ => ∃ (p : Addr) (g s : Int), vs = [.ref p, .int 11] ∧ H p = some (.lst [.int g, .int s]) ∧ 0 ≤ g ∧ 0 ≤ s ∧ s < 2147483647 ∧
  ∀ (g' s' : Int) (r : Nat), 0 ≤ g' → 0 ≤ s' → s' < 2147483647 → r < 11 → Q (.int r) (upd H p (.lst [.int g', .int s']))
theorem scT : FnScope ["_law_pool_here", "_law_many", "_law_found"] ["_law_pool_here", "_law_many"] (defScope sTake) := ⟨rfl, rfl, rfl, by decide +kernel, rfl, by decide +kernel, by decide +kernel⟩
theorem toN {x : Int} (h : 0 ≤ x) (h2 : x < 11) : ∃ r : Nat, x = (r : Int) ∧ r < 11 := ⟨x.toNat, by omega, by omega⟩
theorem ok_take {f : Addr} {fd : FuncData} {k : Nat} (F : Fun K "_law_take" "_law_take" sTake f fd) : FnOk P w K mg base CX0 (k + 1) f fd ["_law_pool_here", "_law_many"] spTake := by
  refine F.ok scT (fun vs H Q E h => ?_) (fun cdv A outer s H vs Q E hr h => ?_)
  · obtain ⟨a, g, s, rfl, _⟩ := h
    rfl
  · obtain ⟨p, g, s, rfl, hp, hg, hs, hs2, q⟩ := h
    refine ⟨_, pss_cons (ps_if (pt_cmpR op_gt (pe_ix ix_list (pv 0) pe_int (fun _ _ => rfl)) pe_int (nomark _))
        (pss_cons (ps_set (i := 2) scT.nd rfl (.inl rfl) (pe_op op_mod (pe_ix ix_list (pv 0) pe_int (fun _ _ => rfl)) (pv 1)))
          (pss_cons (ps_asg (pe_op op_fdiv (pe_ix ix_list (pv 0) pe_int (fun _ _ => rfl)) (pv 1)) (pg_sub (pv 0) pe_int set_list (fun _ => rfl)))
          (pss_one (ps_ret (pv 2))))) pss_nil)
      (pss_cons (ps_asg (pe_op op_mod (pe_op op_add (pe_op op_mul (pe_ix ix_list (pv 0) pe_int (fun _ _ => rfl)) pe_int) pe_int) pe_int) (pg_sub (pv 0) pe_int set_list (fun _ => rfl)))
      (pss_one (ps_ret (pe_op op_mod (pe_op op_fdiv (pe_op op_mod (pe_op op_mul (pe_ix ix_list (pv 0) pe_int (fun _ _ => rfl)) (pe_ix ix_list (pv 0) pe_int (fun _ _ => rfl))) pe_int) pe_int) (pv 1))))), ?_⟩
    have e0 : atI [V.int g, V.int s] 0 = some (.int g) := rfl
    have e1 : atI [V.int g, V.int s] 1 = some (.int s) := rfl
    have hL : SqL K H p [.int g, .int s] := SqL.of hp
    refine ⟨_, rfl, p, _, 0, _, rfl, rfl, hL, e0, _, _, rfl, rfl, _, rfl, ?_⟩
    refine ite2 (fun hc => ?_) (fun hc => ?_)
    · refine ⟨_, rfl, p, _, 0, _, rfl, rfl, hL, e0, _, rfl, _, _, rfl, rfl, (show (0 : Int) < 11 by decide), ?_⟩
      refine ⟨_, rfl, p, _, 0, _, rfl, rfl, hL, e0, _, rfl, _, _, rfl, rfl, ⟨by decide, by decide⟩, ?_⟩
      refine ⟨_, rfl, p, _, 0, 0, rfl, rfl, hp, rfl, ?_⟩
      obtain ⟨r, er, hr11⟩ := toN (Int.emod_nonneg g (show (11 : Int) ≠ 0 by decide)) (Int.emod_lt_of_pos g (show (0 : Int) < 11 by decide))
      refine ⟨_, rfl, ?_⟩
      have hq := q (g / 11) s r (Int.ediv_nonneg hg (by decide)) hs hs2 hr11
      rw [← er] at hq
      exact hq
    · refine ⟨_, rfl, p, _, 1, _, rfl, rfl, hL, e1, _, _, rfl, rfl, .inl ⟨by omega, by omega⟩, _, _, rfl, rfl, _, _, rfl, rfl, (show (0 : Int) < 2147483647 by decide), ?_⟩
      refine ⟨_, rfl, p, _, 1, 1, rfl, rfl, hp, rfl, ?_⟩
      have hz0 : 0 ≤ (s * 48271 + 11) % 2147483647 := Int.emod_nonneg _ (by decide)
      have hz1 : (s * 48271 + 11) % 2147483647 < 2147483647 := Int.emod_lt_of_pos _ (by decide)
      have hL2 : SqL K (upd H p (.lst ([V.int g, V.int s].set 1 (.int ((s * 48271 + 11) % 2147483647))))) p [.int g, .int ((s * 48271 + 11) % 2147483647)] := SqL.of upd_same
      have e2 : atI [V.int g, V.int ((s * 48271 + 11) % 2147483647)] 1 = some (.int ((s * 48271 + 11) % 2147483647)) := rfl
      refine ⟨_, rfl, p, _, 1, _, rfl, rfl, hL2, e2, _, rfl, p, _, 1, _, rfl, rfl, hL2, e2, _, _, rfl, rfl, .inl ⟨by omega, by omega⟩, _, _, rfl, rfl, (show (0 : Int) < 2147483629 by decide), _, _, rfl, rfl, ⟨by decide, by decide⟩, _, rfl, _, _, rfl, rfl, (show (0 : Int) < 11 by decide), ?_⟩
      obtain ⟨r, er, hr11⟩ := toN (Int.emod_nonneg (((s * 48271 + 11) % 2147483647) * ((s * 48271 + 11) % 2147483647) % 2147483629 / 64) (show (11 : Int) ≠ 0 by decide)) (Int.emod_lt_of_pos (((s * 48271 + 11) % 2147483647) * ((s * 48271 + 11) % 2147483647) % 2147483629 / 64) (show (0 : Int) < 11 by decide))
      have hq := q g ((s * 48271 + 11) % 2147483647) r hg hz0 hz1 hr11
      rw [← er] at hq
      exact hq
end
end K12

set_option Elab.async false
set_option linter.all false
set_option maxRecDepth 100000
set_option maxHeartbeats 4000000
namespace K12
open PySem PySem.Spec PyProof.Rows L2 FS
section
variable {P : Program} {w : World} {K : PySem.W.Frag} {mg : Str → Option Value} {base : Heap}
/-! ### _law_values -/
def spVals (K : PySem.W.Frag) : Sp := fun vs H Q _ => ∃ (p : Addr) (g s : Int), vs = [.ref p] ∧ H p = some (.lst [.int g, .int s]) ∧ 0 ≤ g ∧ 0 ≤ s ∧ s < 2147483647 ∧
  ∀ (H' : Hp) (q : Addr) (v1 v2 : V) (d1 d2 : PyData) (g' s' : Int), Off p H H' → H' p = some (.lst [.int g', .int s']) → 0 ≤ g' → 0 ≤ s' → s' < 2147483647 → H q = none → H' q = some (.lst [v1, v2]) → Nice K H' v1 d1 → Nice K H' v2 d2 → Q (.ref q) H'
theorem scV : FnScope ["_law_pool_here", "_law_some"] ["_law_pool_here"] (defScope sVals) := ⟨rfl, rfl, rfl, by decide +kernel, rfl, by decide +kernel, by decide +kernel⟩
def menu (t1 t2 t4 l5 d6 : Addr) : List V := [.non, .int 5, .str "x", .ref t1, .ref t2, .ref t4, .ref l5, .ref d6, .bl true, .str "m.f", .int (-1)]
theorem menu_nice {p t1 t2 t3 t4 l5 d6 : Addr} {H1 : Hp} (n1 : t1 ≠ p) (n2 : t2 ≠ p) (n3 : t3 ≠ p) (n4 : t4 ≠ p) (n5 : l5 ≠ p) (n6 : d6 ≠ p) (h1 : H1 t1 = some (.tup [])) (h2 : H1 t2 = some (.tup [.str "m.f", .int 0])) (h3 : H1 t3 = some (.tup [])) (h4 : H1 t4 = some (.tup [.ref t3, .int 3]))
    (h5 : H1 l5 = some (.lst [.int 1])) (h6 : H1 d6 = some (.dK [])) (r : Nat) (hr : r < 11) : ∃ v d, (menu t1 t2 t4 l5 d6)[r]? = some v ∧ ∀ H2, Off p H1 H2 → Nice K H2 v d := by
  have hcs : r = 0 ∨ r = 1 ∨ r = 2 ∨ r = 3 ∨ r = 4 ∨ r = 5 ∨ r = 6 ∨ r = 7 ∨ r = 8 ∨ r = 9 ∨ r = 10 := by omega
  rcases hcs with rfl | rfl | rfl | rfl | rfl | rfl | rfl | rfl | rfl | rfl | rfl
  · exact ⟨_, .none, rfl, fun H2 o => ⟨.dp .non rfl, by decide +kernel, by decide +kernel, by decide +kernel⟩⟩
  · exact ⟨_, .int 5, rfl, fun H2 o => ⟨.dp (.int 5) rfl, by decide +kernel, by decide +kernel, by decide +kernel⟩⟩
  · exact ⟨_, .str "x", rfl, fun H2 o => ⟨.dp (.str _) rfl, by decide +kernel, by decide +kernel, by decide +kernel⟩⟩
  · exact ⟨_, .tuple [], rfl, fun H2 o => ⟨.dp (.tup (.inl (.inl (o _ _ n1 h1))) .nil) rfl, by decide +kernel, by decide +kernel, by decide +kernel⟩⟩
  · exact ⟨_, .tuple [.str "m.f", .int 0], rfl, fun H2 o => ⟨.dp (.tup (.inl (.inl (o _ _ n2 h2))) (.cons (.str _) (.cons (.int _) .nil))) rfl, by decide +kernel, by decide +kernel, by decide +kernel⟩⟩
  · exact ⟨_, .tuple [.tuple [], .int 3], rfl, fun H2 o => ⟨.dp (.tup (.inl (.inl (o _ _ n4 h4))) (.cons (.tup (.inl (.inl (o _ _ n3 h3))) .nil) (.cons (.int _) .nil))) rfl, by decide +kernel, by decide +kernel, by decide +kernel⟩⟩
  · exact ⟨_, .list [.int 1], rfl, fun H2 o => ⟨.dp (.lst (SqL.of (o _ _ n5 h5)) (.cons (.int _) .nil)) rfl, by decide +kernel, by decide +kernel, by decide +kernel⟩⟩
  · exact ⟨_, .dict [], rfl, fun H2 o => ⟨.emp (o _ _ n6 h6), by decide +kernel, by decide +kernel, by decide +kernel⟩⟩
  · exact ⟨_, .bool true, rfl, fun H2 o => ⟨.dp (.bl _) rfl, by decide +kernel, by decide +kernel, by decide +kernel⟩⟩
  · exact ⟨_, .str "m.f", rfl, fun H2 o => ⟨.dp (.str _) rfl, by decide +kernel, by decide +kernel, by decide +kernel⟩⟩
  · exact ⟨_, .int (-1), rfl, fun H2 o => ⟨.dp (.int _) rfl, by decide +kernel, by decide +kernel, by decide +kernel⟩⟩
def H7 (H : Hp) (t1 t2 t3 t4 l5 d6 m : Addr) : Hp := upd (upd (upd (upd (upd (upd (upd H t1 (.tup [])) t2 (.tup [.str "m.f", .int 0])) t3 (.tup [])) t4 (.tup [.ref t3, .int 3])) l5 (.lst [.int 1])) d6 (.dK [])) m (.lst (menu t1 t2 t4 l5 d6))
theorem h7_facts {H : Hp} {p t1 t2 t3 t4 l5 d6 m : Addr} {o : HO} (m1 : H t1 = none) (m2 : (upd H t1 (.tup [])) t2 = none) (m3 : (upd (upd H t1 (.tup [])) t2 (.tup [.str "m.f", .int 0])) t3 = none) (m4 : (upd (upd (upd H t1 (.tup [])) t2 (.tup [.str "m.f", .int 0])) t3 (.tup [])) t4 = none)
    (m5 : (upd (upd (upd (upd H t1 (.tup [])) t2 (.tup [.str "m.f", .int 0])) t3 (.tup [])) t4 (.tup [.ref t3, .int 3])) l5 = none) (m6 : (upd (upd (upd (upd (upd H t1 (.tup [])) t2 (.tup [.str "m.f", .int 0])) t3 (.tup [])) t4 (.tup [.ref t3, .int 3])) l5 (.lst [.int 1])) d6 = none)
    (m7 : (upd (upd (upd (upd (upd (upd H t1 (.tup [])) t2 (.tup [.str "m.f", .int 0])) t3 (.tup [])) t4 (.tup [.ref t3, .int 3])) l5 (.lst [.int 1])) d6 (.dK [])) m = none) (hp : H p = some o) :
    Same H (H7 H t1 t2 t3 t4 l5 d6 m) ∧ (t1 ≠ p ∧ t2 ≠ p ∧ t3 ≠ p ∧ t4 ≠ p ∧ l5 ≠ p ∧ d6 ≠ p ∧ m ≠ p) ∧ (H7 H t1 t2 t3 t4 l5 d6 m) t1 = some (.tup []) ∧ (H7 H t1 t2 t3 t4 l5 d6 m) t2 = some (.tup [.str "m.f", .int 0]) ∧ (H7 H t1 t2 t3 t4 l5 d6 m) t3 = some (.tup []) ∧
      (H7 H t1 t2 t3 t4 l5 d6 m) t4 = some (.tup [.ref t3, .int 3]) ∧ (H7 H t1 t2 t3 t4 l5 d6 m) l5 = some (.lst [.int 1]) ∧ (H7 H t1 t2 t3 t4 l5 d6 m) d6 = some (.dK []) ∧ (H7 H t1 t2 t3 t4 l5 d6 m) m = some (.lst (menu t1 t2 t4 l5 d6)) := by
  have s1 := same_new (o := .tup []) m1
  have s2 := same_new (o := .tup [.str "m.f", .int 0]) m2
  have s3 := same_new (o := .tup []) m3
  have s4 := same_new (o := .tup [.ref t3, .int 3]) m4
  have s5 := same_new (o := .lst [.int 1]) m5
  have s6 := same_new (o := .dK []) m6
  have s7 := same_new (o := .lst (menu t1 t2 t4 l5 d6)) m7
  have p1 := s1 _ _ hp
  have p2 := s2 _ _ p1
  have p3 := s3 _ _ p2
  have p4 := s4 _ _ p3
  have p5 := s5 _ _ p4
  have p6 := s6 _ _ p5
  exact ⟨s1.trans (s2.trans (s3.trans (s4.trans (s5.trans (s6.trans s7))))), ⟨(ne_of_none hp m1).symm, (ne_of_none p1 m2).symm, (ne_of_none p2 m3).symm, (ne_of_none p3 m4).symm, (ne_of_none p4 m5).symm, (ne_of_none p5 m6).symm, (ne_of_none p6 m7).symm⟩,
    s7 _ _ (s6 _ _ (s5 _ _ (s4 _ _ (s3 _ _ (s2 _ _ upd_same))))), s7 _ _ (s6 _ _ (s5 _ _ (s4 _ _ (s3 _ _ upd_same)))), s7 _ _ (s6 _ _ (s5 _ _ (s4 _ _ upd_same))), s7 _ _ (s6 _ _ (s5 _ _ upd_same)), s7 _ _ (s6 _ _ upd_same), s7 _ _ upd_same, upd_same⟩
theorem ok_vals {f fT : Addr} {fd fdT : FuncData} (F : Fun K "_law_values" "_law_values" sVals f fd) (FT : Fun K "_law_take" "_law_take" sTake fT fdT) (bT : Binds K fdT ["_law_pool_here", "_law_many"] []) (gT : mg "_law_take" = some (.ref fT)) : FnOk P w K mg base CX0 2 f fd ["_law_pool_here"] (spVals K) := by
  have GT : FnOk P w K mg base CX0 1 fT fdT ["_law_pool_here", "_law_many"] spTake := ok_take FT
  refine F.ok scV (fun vs H Q E h => ?_) (fun cdv A outer s H vs Q E hr h => ?_)
  · obtain ⟨a, g, s, rfl, _⟩ := h
    rfl
  · obtain ⟨p, g, s, rfl, hp, hg, hs, hs2, q⟩ := h
    refine ⟨_, pss_cons (ps_set (i := 1) scV.nd rfl (.inl rfl) (pe_lst (pa_cons pe_non (pa_cons pe_int (pa_cons pe_str (pa_cons (pe_tup pa_nil) (pa_cons (pe_tup (pa_cons pe_str (pa_cons pe_int pa_nil)))
        (pa_cons (pe_tup (pa_cons (pe_tup pa_nil) (pa_cons pe_int pa_nil))) (pa_cons (pe_lst (pa_cons pe_int pa_nil)) (pa_cons pe_dnewK (pa_cons pe_bl (pa_cons pe_str (pa_cons (pe_un un_neg pe_int) pa_nil)))))))))))))
      (pss_one (ps_ret (pe_lst (pa_cons (pe_ix ix_list (pv 1) (pe_call GT hr rfl gT FT.kp bT .nil pass0 (pa_cons (pv 0) (pa_cons pe_int pa_nil))) (fun _ _ => rfl))
        (pa_cons (pe_ix ix_list (pv 1) (pe_call GT hr rfl gT FT.kp bT .nil pass0 (pa_cons (pv 0) (pa_cons pe_int pa_nil))) (fun _ _ => rfl)) pa_nil))))), ?_⟩
    refine ⟨Nat.zero_le _, fun t1 m1 => ⟨by show 2 ≤ sizeLine; decide, fun t2 m2 => ⟨Nat.zero_le _, fun t3 m3 => ⟨by show 2 ≤ sizeLine; decide, fun t4 m4 => ⟨by show 1 ≤ sizeLine; decide, fun l5 m5 => fun d6 m6 => ⟨_, rfl, by show 11 ≤ sizeLine; decide, fun m m7 => ?_⟩⟩⟩⟩⟩⟩
    obtain ⟨F1, F2, F3⟩ := h7_facts m1 m2 m3 m4 m5 m6 m7 hp
    obtain ⟨n1, n2, n3, n4, n5, n6, n7⟩ := F2
    have hL : SqL K (H7 H t1 t2 t3 t4 l5 d6 m) m (menu t1 t2 t4 l5 d6) := SqL.of F3.2.2.2.2.2.2
    have hp7 : (H7 H t1 t2 t3 t4 l5 d6 m) p = some (.lst [.int g, .int s]) := F1 _ _ hp
    refine ⟨.ref m, rfl, .ref p, rfl, p, g, s, rfl, hp7, hg, hs, hs2, fun g1 z1 r1 hg1 hz1 hz1' hr1 => ?_⟩
    obtain ⟨v1, d1, hv1, N1⟩ := menu_nice n1 n2 n3 n4 n5 n6 F3.1 F3.2.1 F3.2.2.1 F3.2.2.2.1 F3.2.2.2.2.1 F3.2.2.2.2.2.1 r1 hr1
    have o8 : Off p (H7 H t1 t2 t3 t4 l5 d6 m) (upd (H7 H t1 t2 t3 t4 l5 d6 m) p (.lst [.int g1, .int z1])) := Off.put
    have hL8 : SqL K (upd (H7 H t1 t2 t3 t4 l5 d6 m) p (.lst [.int g1, .int z1])) m (menu t1 t2 t4 l5 d6) := SqL.of (o8 _ _ n7 F3.2.2.2.2.2.2)
    refine ⟨m, _, _, v1, rfl, rfl, hL8, atI_nat hv1, .ref m, rfl, .ref p, rfl, p, g1, z1, rfl, upd_same, hg1, hz1, hz1', fun g2 z2 r2 hg2 hz2 hz2' hr2 => ?_⟩
    obtain ⟨v2, d2, hv2, N2⟩ := menu_nice n1 n2 n3 n4 n5 n6 F3.1 F3.2.1 F3.2.2.1 F3.2.2.2.1 F3.2.2.2.2.1 F3.2.2.2.2.2.1 r2 hr2
    have o9 : Off p (H7 H t1 t2 t3 t4 l5 d6 m) (upd (upd (H7 H t1 t2 t3 t4 l5 d6 m) p (.lst [.int g1, .int z1])) p (.lst [.int g2, .int z2])) := o8.trans Off.put
    have hL9 : SqL K (upd (upd (H7 H t1 t2 t3 t4 l5 d6 m) p (.lst [.int g1, .int z1])) p (.lst [.int g2, .int z2])) m (menu t1 t2 t4 l5 d6) := SqL.of (o9 _ _ n7 F3.2.2.2.2.2.2)
    refine ⟨m, _, _, v2, rfl, rfl, hL9, atI_nat hv2, by show 2 ≤ sizeLine; decide, fun l nl => ?_⟩
    have s10 := same_new (o := .lst [v1, v2]) nl
    have nlp : p ≠ l := ne_of_none (o := .lst [.int g2, .int z2]) upd_same nl
    have hl0 : H l = none := by
      cases e : H l with
      | none => rfl
      | some o =>
        have z : some o = (none : Option HO) := ((Off.of F1).trans o9 l o nlp.symm e).symm.trans nl
        cases z
    exact q _ l v1 v2 d1 d2 g2 z2 (((Off.of F1).trans o9).trans (Off.of s10)) (s10 _ _ upd_same) hg2 hz2 hz2' hl0 upd_same (N1 _ (o9.trans (Off.of s10))) (N2 _ (o9.trans (Off.of s10)))
end
end K12

set_option Elab.async false
set_option linter.all false
set_option maxRecDepth 100000
set_option maxHeartbeats 8000000
namespace K12
open PySem PySem.Spec PyProof.Rows L2 FS
section
variable {P : Program} {w : World} {K : PySem.W.Frag} {mg : Str → Option Value} {base : Heap}
/-! ### the errors' own __init__ -/
theorem scI2 : FnScope ["self", "row"] ["self", "row"] (defScope (sI 2)) := ⟨rfl, rfl, rfl, by decide +kernel, rfl, by decide +kernel, by decide +kernel⟩
theorem ok_I2 {f C : Addr} {fd : FuncData} (F : Fun K "__init__" "BadText.__init__" (sI 2) f fd) (E : EC K mg "BadText" C f) (no0 : PySem.W.findIn K (.ref C) "row" = some none) : FnOk P w K mg base CX0 1 f fd ["self", "row"] (spI1 C "row") := by
  refine F.ok scI2 (fun vs H Q E h => ?_) (fun cdv A outer s H vs Q E1 hr h => ?_)
  · obtain ⟨a, v, rfl, _⟩ := h
    rfl
  · obtain ⟨a, v, rfl, ha, k⟩ := h
    refine ⟨_, pss_one (ps_ost (pv 0) (pv 1)), ?_⟩
    exact ⟨v, rfl, .ref a, rfl, a, C, rfl, E.oex, no0, .inl ⟨ha, fun dx n ne => k _ (off_first n) (err_first ne)⟩⟩
theorem scI3 : FnScope ["self", "value"] ["self", "value"] (defScope (sI 3)) := ⟨rfl, rfl, rfl, by decide +kernel, rfl, by decide +kernel, by decide +kernel⟩
theorem ok_I3 {f C : Addr} {fd : FuncData} (F : Fun K "__init__" "BadName.__init__" (sI 3) f fd) (E : EC K mg "BadName" C f) (no0 : PySem.W.findIn K (.ref C) "value" = some none) : FnOk P w K mg base CX0 1 f fd ["self", "value"] (spI1 C "value") := by
  refine F.ok scI3 (fun vs H Q E h => ?_) (fun cdv A outer s H vs Q E1 hr h => ?_)
  · obtain ⟨a, v, rfl, _⟩ := h
    rfl
  · obtain ⟨a, v, rfl, ha, k⟩ := h
    refine ⟨_, pss_one (ps_ost (pv 0) (pv 1)), ?_⟩
    exact ⟨v, rfl, .ref a, rfl, a, C, rfl, E.oex, no0, .inl ⟨ha, fun dx n ne => k _ (off_first n) (err_first ne)⟩⟩
theorem scI4 : FnScope ["self", "module", "row"] ["self", "module", "row"] (defScope (sI 4)) := ⟨rfl, rfl, rfl, by decide +kernel, rfl, by decide +kernel, by decide +kernel⟩
theorem ok_I4 {f C : Addr} {fd : FuncData} (F : Fun K "__init__" "BadModule.__init__" (sI 4) f fd) (E : EC K mg "BadModule" C f) (no0 : PySem.W.findIn K (.ref C) "module" = some none) (no1 : PySem.W.findIn K (.ref C) "row" = some none) : FnOk P w K mg base CX0 1 f fd ["self", "module", "row"] (spI2 C "module" "row") := by
  refine F.ok scI4 (fun vs H Q E h => ?_) (fun cdv A outer s H vs Q E1 hr h => ?_)
  · obtain ⟨a, v, u, rfl, _⟩ := h
    rfl
  · obtain ⟨a, v, u, rfl, ha, k⟩ := h
    refine ⟨_, pss_cons (ps_ost (pv 0) (pv 1)) (pss_one (ps_ost (pv 0) (pv 2))), ?_⟩
    refine ⟨v, rfl, .ref a, rfl, a, C, rfl, E.oex, no0, .inl ⟨ha, fun dx n ne => ?_⟩⟩
    refine ⟨u, rfl, .ref a, rfl, a, C, rfl, E.oex, no1, .inr ⟨dx, [("module", v)], upd_same, (by rw [upd_ne ne, upd_same]), (by simp), ?_⟩⟩
    exact k _ (off_second n) (err_next ne upd_same)
theorem scI5 : FnScope ["self", "value"] ["self", "value"] (defScope (sI 5)) := ⟨rfl, rfl, rfl, by decide +kernel, rfl, by decide +kernel, by decide +kernel⟩
theorem ok_I5 {f C : Addr} {fd : FuncData} (F : Fun K "__init__" "BadValue.__init__" (sI 5) f fd) (E : EC K mg "BadValue" C f) (no0 : PySem.W.findIn K (.ref C) "value" = some none) : FnOk P w K mg base CX0 1 f fd ["self", "value"] (spI1 C "value") := by
  refine F.ok scI5 (fun vs H Q E h => ?_) (fun cdv A outer s H vs Q E1 hr h => ?_)
  · obtain ⟨a, v, rfl, _⟩ := h
    rfl
  · obtain ⟨a, v, rfl, ha, k⟩ := h
    refine ⟨_, pss_one (ps_ost (pv 0) (pv 1)), ?_⟩
    exact ⟨v, rfl, .ref a, rfl, a, C, rfl, E.oex, no0, .inl ⟨ha, fun dx n ne => k _ (off_first n) (err_first ne)⟩⟩
theorem scI6 : FnScope ["self", "value"] ["self", "value"] (defScope (sI 6)) := ⟨rfl, rfl, rfl, by decide +kernel, rfl, by decide +kernel, by decide +kernel⟩
theorem ok_I6 {f C : Addr} {fd : FuncData} (F : Fun K "__init__" "UnknownName.__init__" (sI 6) f fd) (E : EC K mg "UnknownName" C f) (no0 : PySem.W.findIn K (.ref C) "value" = some none) : FnOk P w K mg base CX0 1 f fd ["self", "value"] (spI1 C "value") := by
  refine F.ok scI6 (fun vs H Q E h => ?_) (fun cdv A outer s H vs Q E1 hr h => ?_)
  · obtain ⟨a, v, rfl, _⟩ := h
    rfl
  · obtain ⟨a, v, rfl, ha, k⟩ := h
    refine ⟨_, pss_one (ps_ost (pv 0) (pv 1)), ?_⟩
    exact ⟨v, rfl, .ref a, rfl, a, C, rfl, E.oex, no0, .inl ⟨ha, fun dx n ne => k _ (off_first n) (err_first ne)⟩⟩
theorem scI7 : FnScope ["self", "limit"] ["self", "limit"] (defScope (sI 7)) := ⟨rfl, rfl, rfl, by decide +kernel, rfl, by decide +kernel, by decide +kernel⟩
theorem ok_I7 {f C : Addr} {fd : FuncData} (F : Fun K "__init__" "LimitExceeded.__init__" (sI 7) f fd) (E : EC K mg "LimitExceeded" C f) (no0 : PySem.W.findIn K (.ref C) "limit" = some none) : FnOk P w K mg base CX0 1 f fd ["self", "limit"] (spI1 C "limit") := by
  refine F.ok scI7 (fun vs H Q E h => ?_) (fun cdv A outer s H vs Q E1 hr h => ?_)
  · obtain ⟨a, v, rfl, _⟩ := h
    rfl
  · obtain ⟨a, v, rfl, ha, k⟩ := h
    refine ⟨_, pss_one (ps_ost (pv 0) (pv 1)), ?_⟩
    exact ⟨v, rfl, .ref a, rfl, a, C, rfl, E.oex, no0, .inl ⟨ha, fun dx n ne => k _ (off_first n) (err_first ne)⟩⟩
theorem scI8 : FnScope ["self", "one", "other"] ["self", "one", "other"] (defScope (sI 8)) := ⟨rfl, rfl, rfl, by decide +kernel, rfl, by decide +kernel, by decide +kernel⟩
theorem ok_I8 {f C : Addr} {fd : FuncData} (F : Fun K "__init__" "NotLegal.__init__" (sI 8) f fd) (E : EC K mg "NotLegal" C f) (no0 : PySem.W.findIn K (.ref C) "one" = some none) (no1 : PySem.W.findIn K (.ref C) "other" = some none) : FnOk P w K mg base CX0 1 f fd ["self", "one", "other"] (spI2 C "one" "other") := by
  refine F.ok scI8 (fun vs H Q E h => ?_) (fun cdv A outer s H vs Q E1 hr h => ?_)
  · obtain ⟨a, v, u, rfl, _⟩ := h
    rfl
  · obtain ⟨a, v, u, rfl, ha, k⟩ := h
    refine ⟨_, pss_cons (ps_ost (pv 0) (pv 1)) (pss_one (ps_ost (pv 0) (pv 2))), ?_⟩
    refine ⟨v, rfl, .ref a, rfl, a, C, rfl, E.oex, no0, .inl ⟨ha, fun dx n ne => ?_⟩⟩
    refine ⟨u, rfl, .ref a, rfl, a, C, rfl, E.oex, no1, .inr ⟨dx, [("one", v)], upd_same, (by rw [upd_ne ne, upd_same]), (by simp), ?_⟩⟩
    exact k _ (off_second n) (err_next ne upd_same)
theorem scI9 : FnScope ["self", "moment"] ["self", "moment"] (defScope (sI 9)) := ⟨rfl, rfl, rfl, by decide +kernel, rfl, by decide +kernel, by decide +kernel⟩
theorem ok_I9 {f C : Addr} {fd : FuncData} (F : Fun K "__init__" "Noticed.__init__" (sI 9) f fd) (E : EC K mg "Noticed" C f) (no0 : PySem.W.findIn K (.ref C) "moment" = some none) : FnOk P w K mg base CX0 1 f fd ["self", "moment"] (spI1 C "moment") := by
  refine F.ok scI9 (fun vs H Q E h => ?_) (fun cdv A outer s H vs Q E1 hr h => ?_)
  · obtain ⟨a, v, rfl, _⟩ := h
    rfl
  · obtain ⟨a, v, rfl, ha, k⟩ := h
    refine ⟨_, pss_one (ps_ost (pv 0) (pv 1)), ?_⟩
    exact ⟨v, rfl, .ref a, rfl, a, C, rfl, E.oex, no0, .inl ⟨ha, fun dx n ne => k _ (off_first n) (err_first ne)⟩⟩
theorem boot_rep : bootBuiltins "repr" = some (.builtin "repr") := by decide +kernel
def due : Nat → List Bool
  | 0 => []
  | n + 1 => due n ++ (List.range 8).map fun k => decide (n = k)
theorem due_len : ∀ n, (due n).length = 8 * n
  | 0 => rfl
  | n + 1 => by
    show (due n ++ (List.range 8).map fun k => decide (n = k)).length = _
    rw [List.length_append, due_len n, List.length_map, List.length_range]
    omega
theorem due_succ (n : Nat) : (due n).map V.bl ++ (List.range 8).map (fun k : Nat => V.bl (decide (V.int (0 + (n : Int)) = V.int (0 + (k : Int))))) = (due (n + 1)).map V.bl := by
  show _ = (due n ++ (List.range 8).map fun k => decide (n = k)).map V.bl
  rw [List.map_append, List.map_map]
  congr 1
  refine List.map_congr_left fun k _ => ?_
  show V.bl _ = V.bl _
  congr 1
  show decide _ = decide (n = k)
  by_cases h : n = k
  · subst h
    simp
  · rw [decide_eq_false h]
    refine decide_eq_false fun e => h ?_
    have := V.int.inj e
    omega
theorem ne_cls {K : PySem.W.Frag} {D C : Addr} (_ : PySem.W.typeIn K (.ref D) = some (.type "type")) (h : PySem.W.subIn K (.ref D) (.ref C) = some false) (h2 : PySem.W.subIn K (.ref C) (.ref C) = some true) : D = C → false = true := fun e => by
  subst e
  rw [h] at h2
  cases h2
theorem boot_isi : bootBuiltins "isinstance" = some (.builtin "isinstance") := by decide +kernel
/-! ### what the law asks of the text -/
structure Txt (K : PySem.W.Frag) (mg : Str → Option Value) (Cf C0 f0 C1 f1 C2 f2 C3 f3 C4 f4 C5 f5 C6 f6 C7 f7 : Addr) : Prop where
  gF : mg "FoldError" = some (.ref Cf)
  hF : PySem.W.hasDictIn K Cf = true
  tF : PySem.W.typeIn K (.ref Cf) = some (.type "type")
  e0 : EC K mg "BadText" C0 f0
  n0_row : PySem.W.findIn K (.ref C0) "row" = some none
  sF0 : PySem.W.subIn K (.ref C0) (.ref Cf) = some true
  sV0 : PySem.W.subIn K (.ref C0) (.type "ValueError") = some true
  s0_0 : PySem.W.subIn K (.ref C0) (.ref C0) = some true
  s0_1 : PySem.W.subIn K (.ref C0) (.ref C1) = some false
  s0_2 : PySem.W.subIn K (.ref C0) (.ref C2) = some false
  s0_3 : PySem.W.subIn K (.ref C0) (.ref C3) = some false
  s0_4 : PySem.W.subIn K (.ref C0) (.ref C4) = some false
  s0_5 : PySem.W.subIn K (.ref C0) (.ref C5) = some false
  s0_6 : PySem.W.subIn K (.ref C0) (.ref C6) = some false
  s0_7 : PySem.W.subIn K (.ref C0) (.ref C7) = some false
  e1 : EC K mg "BadName" C1 f1
  n1_value : PySem.W.findIn K (.ref C1) "value" = some none
  sF1 : PySem.W.subIn K (.ref C1) (.ref Cf) = some true
  sV1 : PySem.W.subIn K (.ref C1) (.type "ValueError") = some true
  s1_0 : PySem.W.subIn K (.ref C1) (.ref C0) = some false
  s1_1 : PySem.W.subIn K (.ref C1) (.ref C1) = some true
  s1_2 : PySem.W.subIn K (.ref C1) (.ref C2) = some false
  s1_3 : PySem.W.subIn K (.ref C1) (.ref C3) = some false
  s1_4 : PySem.W.subIn K (.ref C1) (.ref C4) = some false
  s1_5 : PySem.W.subIn K (.ref C1) (.ref C5) = some false
  s1_6 : PySem.W.subIn K (.ref C1) (.ref C6) = some false
  s1_7 : PySem.W.subIn K (.ref C1) (.ref C7) = some false
  e2 : EC K mg "BadModule" C2 f2
  n2_module : PySem.W.findIn K (.ref C2) "module" = some none
  n2_row : PySem.W.findIn K (.ref C2) "row" = some none
  sF2 : PySem.W.subIn K (.ref C2) (.ref Cf) = some true
  sV2 : PySem.W.subIn K (.ref C2) (.type "ValueError") = some true
  s2_0 : PySem.W.subIn K (.ref C2) (.ref C0) = some false
  s2_1 : PySem.W.subIn K (.ref C2) (.ref C1) = some false
  s2_2 : PySem.W.subIn K (.ref C2) (.ref C2) = some true
  s2_3 : PySem.W.subIn K (.ref C2) (.ref C3) = some false
  s2_4 : PySem.W.subIn K (.ref C2) (.ref C4) = some false
  s2_5 : PySem.W.subIn K (.ref C2) (.ref C5) = some false
  s2_6 : PySem.W.subIn K (.ref C2) (.ref C6) = some false
  s2_7 : PySem.W.subIn K (.ref C2) (.ref C7) = some false
  e3 : EC K mg "BadValue" C3 f3
  n3_value : PySem.W.findIn K (.ref C3) "value" = some none
  sF3 : PySem.W.subIn K (.ref C3) (.ref Cf) = some true
  sV3 : PySem.W.subIn K (.ref C3) (.type "ValueError") = some true
  s3_0 : PySem.W.subIn K (.ref C3) (.ref C0) = some false
  s3_1 : PySem.W.subIn K (.ref C3) (.ref C1) = some false
  s3_2 : PySem.W.subIn K (.ref C3) (.ref C2) = some false
  s3_3 : PySem.W.subIn K (.ref C3) (.ref C3) = some true
  s3_4 : PySem.W.subIn K (.ref C3) (.ref C4) = some false
  s3_5 : PySem.W.subIn K (.ref C3) (.ref C5) = some false
  s3_6 : PySem.W.subIn K (.ref C3) (.ref C6) = some false
  s3_7 : PySem.W.subIn K (.ref C3) (.ref C7) = some false
  e4 : EC K mg "UnknownName" C4 f4
  n4_value : PySem.W.findIn K (.ref C4) "value" = some none
  sF4 : PySem.W.subIn K (.ref C4) (.ref Cf) = some true
  sV4 : PySem.W.subIn K (.ref C4) (.type "ValueError") = some true
  s4_0 : PySem.W.subIn K (.ref C4) (.ref C0) = some false
  s4_1 : PySem.W.subIn K (.ref C4) (.ref C1) = some false
  s4_2 : PySem.W.subIn K (.ref C4) (.ref C2) = some false
  s4_3 : PySem.W.subIn K (.ref C4) (.ref C3) = some false
  s4_4 : PySem.W.subIn K (.ref C4) (.ref C4) = some true
  s4_5 : PySem.W.subIn K (.ref C4) (.ref C5) = some false
  s4_6 : PySem.W.subIn K (.ref C4) (.ref C6) = some false
  s4_7 : PySem.W.subIn K (.ref C4) (.ref C7) = some false
  e5 : EC K mg "LimitExceeded" C5 f5
  n5_limit : PySem.W.findIn K (.ref C5) "limit" = some none
  sF5 : PySem.W.subIn K (.ref C5) (.ref Cf) = some true
  sV5 : PySem.W.subIn K (.ref C5) (.type "ValueError") = some true
  s5_0 : PySem.W.subIn K (.ref C5) (.ref C0) = some false
  s5_1 : PySem.W.subIn K (.ref C5) (.ref C1) = some false
  s5_2 : PySem.W.subIn K (.ref C5) (.ref C2) = some false
  s5_3 : PySem.W.subIn K (.ref C5) (.ref C3) = some false
  s5_4 : PySem.W.subIn K (.ref C5) (.ref C4) = some false
  s5_5 : PySem.W.subIn K (.ref C5) (.ref C5) = some true
  s5_6 : PySem.W.subIn K (.ref C5) (.ref C6) = some false
  s5_7 : PySem.W.subIn K (.ref C5) (.ref C7) = some false
  e6 : EC K mg "NotLegal" C6 f6
  n6_one : PySem.W.findIn K (.ref C6) "one" = some none
  n6_other : PySem.W.findIn K (.ref C6) "other" = some none
  sF6 : PySem.W.subIn K (.ref C6) (.ref Cf) = some true
  sV6 : PySem.W.subIn K (.ref C6) (.type "ValueError") = some true
  s6_0 : PySem.W.subIn K (.ref C6) (.ref C0) = some false
  s6_1 : PySem.W.subIn K (.ref C6) (.ref C1) = some false
  s6_2 : PySem.W.subIn K (.ref C6) (.ref C2) = some false
  s6_3 : PySem.W.subIn K (.ref C6) (.ref C3) = some false
  s6_4 : PySem.W.subIn K (.ref C6) (.ref C4) = some false
  s6_5 : PySem.W.subIn K (.ref C6) (.ref C5) = some false
  s6_6 : PySem.W.subIn K (.ref C6) (.ref C6) = some true
  s6_7 : PySem.W.subIn K (.ref C6) (.ref C7) = some false
  e7 : EC K mg "Noticed" C7 f7
  n7_moment : PySem.W.findIn K (.ref C7) "moment" = some none
  sF7 : PySem.W.subIn K (.ref C7) (.ref Cf) = some true
  sV7 : PySem.W.subIn K (.ref C7) (.type "ValueError") = some true
  s7_0 : PySem.W.subIn K (.ref C7) (.ref C0) = some false
  s7_1 : PySem.W.subIn K (.ref C7) (.ref C1) = some false
  s7_2 : PySem.W.subIn K (.ref C7) (.ref C2) = some false
  s7_3 : PySem.W.subIn K (.ref C7) (.ref C3) = some false
  s7_4 : PySem.W.subIn K (.ref C7) (.ref C4) = some false
  s7_5 : PySem.W.subIn K (.ref C7) (.ref C5) = some false
  s7_6 : PySem.W.subIn K (.ref C7) (.ref C6) = some false
  s7_7 : PySem.W.subIn K (.ref C7) (.ref C7) = some true
  zlen : mg "len" = none
  zabs : mg "abs" = none
  zint : mg "int" = none
  zrange : mg "range" = none
  zmax : mg "max" = none
  zmin : mg "min" = none
  zrepr : mg "repr" = none
  zisinstance : mg "isinstance" = none
  zValueError : mg "ValueError" = none
theorem scL : FnScope ["_law_script", "_law_k", "_law_pool_here", "_law_turn", "_law_one", "_law_other", "_law_made", "_law_some", "_law_kept", "_law_error", "_law_own", "_law_due", "_law_spot", "_law_one_spot"] ["_law_script"] (defScope sLaw) := ⟨rfl, rfl, rfl, by decide +kernel, rfl, by decide +kernel, by decide +kernel⟩
def spLaw (K : PySem.W.Frag) : Sp := fun vs H Q _ => ∃ (a : Addr) (ns : List Int), vs = [.ref a] ∧ SqL K H a (ns.map V.int) ∧ ns.length ≤ 63 ∧ ∀ H', Q (.bl true) H'
theorem ok_law {f fP fT fV Cf C0 f0 C1 f1 C2 f2 C3 f3 C4 f4 C5 f5 C6 f6 C7 f7 : Addr} {fd fdP fdT fdV fd0 fd1 fd2 fd3 fd4 fd5 fd6 fd7 : FuncData} (F : Fun K "law" "law" sLaw f fd) (T : Txt K mg Cf C0 f0 C1 f1 C2 f2 C3 f3 C4 f4 C5 f5 C6 f6 C7 f7)
    (FP : Fun K "_law_pool" "_law_pool" sPool fP fdP) (bP : Binds K fdP ["_law_script", "_law_k"] []) (gP : mg "_law_pool" = some (.ref fP)) (FT : Fun K "_law_take" "_law_take" sTake fT fdT) (bT : Binds K fdT ["_law_pool_here", "_law_many"] []) (gT : mg "_law_take" = some (.ref fT))
    (FV : Fun K "_law_values" "_law_values" sVals fV fdV) (bV : Binds K fdV ["_law_pool_here"] []) (gV : mg "_law_values" = some (.ref fV))
    (F0 : Fun K "__init__" "BadText.__init__" (sI 2) f0 fd0) (b0 : Binds K fd0 ["self", "row"] [])
    (F1 : Fun K "__init__" "BadName.__init__" (sI 3) f1 fd1) (b1 : Binds K fd1 ["self", "value"] [])
    (F2 : Fun K "__init__" "BadModule.__init__" (sI 4) f2 fd2) (b2 : Binds K fd2 ["self", "module", "row"] [])
    (F3 : Fun K "__init__" "BadValue.__init__" (sI 5) f3 fd3) (b3 : Binds K fd3 ["self", "value"] [])
    (F4 : Fun K "__init__" "UnknownName.__init__" (sI 6) f4 fd4) (b4 : Binds K fd4 ["self", "value"] [])
    (F5 : Fun K "__init__" "LimitExceeded.__init__" (sI 7) f5 fd5) (b5 : Binds K fd5 ["self", "limit"] [])
    (F6 : Fun K "__init__" "NotLegal.__init__" (sI 8) f6 fd6) (b6 : Binds K fd6 ["self", "one", "other"] [])
    (F7 : Fun K "__init__" "Noticed.__init__" (sI 9) f7 fd7) (b7 : Binds K fd7 ["self", "moment"] [])
    : FnG P w K mg base 3 f fd ["_law_script"] (spLaw K) := by
  have GP : FnOk P w K mg base CX0 1 fP fdP ["_law_script", "_law_k"] (spPool K) := ok_pool FP T.zlen T.zabs T.zint
  have GV : FnOk P w K mg base CX0 2 fV fdV ["_law_pool_here"] (spVals K) := ok_vals FV FT bT gT
  have G0 : FnOk P w K mg base CX0 1 f0 fd0 ["self", "row"] (spI1 C0 "row") := ok_I2 F0 T.e0 T.n0_row
  have G1 : FnOk P w K mg base CX0 1 f1 fd1 ["self", "value"] (spI1 C1 "value") := ok_I3 F1 T.e1 T.n1_value
  have G2 : FnOk P w K mg base CX0 1 f2 fd2 ["self", "module", "row"] (spI2 C2 "module" "row") := ok_I4 F2 T.e2 T.n2_module T.n2_row
  have G3 : FnOk P w K mg base CX0 1 f3 fd3 ["self", "value"] (spI1 C3 "value") := ok_I5 F3 T.e3 T.n3_value
  have G4 : FnOk P w K mg base CX0 1 f4 fd4 ["self", "value"] (spI1 C4 "value") := ok_I6 F4 T.e4 T.n4_value
  have G5 : FnOk P w K mg base CX0 1 f5 fd5 ["self", "limit"] (spI1 C5 "limit") := ok_I7 F5 T.e5 T.n5_limit
  have G6 : FnOk P w K mg base CX0 1 f6 fd6 ["self", "one", "other"] (spI2 C6 "one" "other") := ok_I8 F6 T.e6 T.n6_one T.n6_other
  have G7 : FnOk P w K mg base CX0 1 f7 fd7 ["self", "moment"] (spI1 C7 "moment") := ok_I9 F7 T.e7 T.n7_moment
  refine okG F scL (fun vs H Q E h => ?_) (fun cdv A outer s H vs Q E hgd hr h => ?_)
  · obtain ⟨a, ns, rfl, _⟩ := h
    rfl
  · obtain ⟨a, ns, rfl, hS, hlen, k⟩ := h
    have hr2 : Room 2 (A.deeper (envOfC "law" (defScope sLaw) s.heap.objs.size f cdv)) := hr
    refine ⟨_, (pss_cons (ps_for PassesOwn.never rfl (pi_range1 rfl T.zrange (pa_cons (pe_callB (call_max2 rfl) (by rfl) T.zmax (by decide +kernel) (pa_cons pe_int (pa_cons (pe_callB (call_min2 rfl) (by rfl) T.zmin (by decide +kernel) (pa_cons (pe_callB call_len_seq (by rfl) T.zlen PySem.boot_len (pa_cons (pv 0) pa_nil)) (pa_cons pe_int pa_nil))) pa_nil))) pa_nil)) (pg_name (i := 1) scL.nd rfl (Or.inl rfl)) (pss_cons (ps_set (i := 2) scL.nd rfl (.inl rfl) (pe_call GP (hr.mono (by decide)) rfl gP FP.kp bP .nil pass0 (pa_cons (pv 0) (pa_cons (pv 1) pa_nil))))
        (pss_one (ps_for PassesOwn.never rfl (pi_range1 rfl T.zrange (pa_cons pe_int pa_nil)) (pg_name (i := 3) scL.nd rfl (Or.inl rfl)) (pss_cons (ps_asg (pe_call GV hr rfl gV FV.kp bV .nil pass0 (pa_cons (pv 2) pa_nil)) (pg_unl rfl (pgs_cons (pg_name (i := 4) scL.nd rfl (Or.inl rfl)) (pgs_cons (pg_name (i := 5) scL.nd rfl (Or.inl rfl)) pgs_nil))))
        (pss_cons (ps_set (i := 6) scL.nd rfl (.inl rfl) (pe_lstS (pa_cons (pe_mk1 (pe_mkV T.e0.oex T.e0.iC T.e0.tI G0 hr2 b0 .nil pass0 (by rfl) T.e0.gC (pa_cons (pv 4) pa_nil))) (pa_cons (pe_mk1 (pe_mkV T.e1.oex T.e1.iC T.e1.tI G1 hr2 b1 .nil pass0 (by rfl) T.e1.gC (pa_cons (pv 4) pa_nil))) (pa_cons (pe_mk2 (pe_mkV T.e2.oex T.e2.iC T.e2.tI G2 hr2 b2 .nil pass0 (by rfl) T.e2.gC (pa_cons (pv 4) (pa_cons (pv 5) pa_nil)))) (pa_cons (pe_mk1 (pe_mkV T.e3.oex T.e3.iC T.e3.tI G3 hr2 b3 .nil pass0 (by rfl) T.e3.gC (pa_cons (pv 4) pa_nil))) (pa_cons (pe_mk1 (pe_mkV T.e4.oex T.e4.iC T.e4.tI G4 hr2 b4 .nil pass0 (by rfl) T.e4.gC (pa_cons (pv 4) pa_nil))) pa_nil)))))))
        (pss_cons (ps_set (i := 6) scL.nd rfl (.inl rfl) (pe_op op_catS (pv 6) (pe_lstS (pa_cons (pe_mk1 (pe_mkV T.e5.oex T.e5.iC T.e5.tI G5 hr2 b5 .nil pass0 (by rfl) T.e5.gC (pa_cons (pv 4) pa_nil))) (pa_cons (pe_mk2 (pe_mkV T.e6.oex T.e6.iC T.e6.tI G6 hr2 b6 .nil pass0 (by rfl) T.e6.gC (pa_cons (pv 4) (pa_cons (pv 5) pa_nil)))) (pa_cons (pe_mk1 (pe_mkV T.e7.oex T.e7.iC T.e7.tI G7 hr2 b7 .nil pass0 (by rfl) T.e7.gC (pa_cons (pv 4) pa_nil))) pa_nil))))))
        (pss_one (ps_for PassesOwn.never rfl (pi_list (pe_lstS (pa_cons (pv 6) pa_nil))) (pg_name (i := 7) scL.nd rfl (Or.inl rfl)) (pss_cons (ps_set (i := 8) scL.nd rfl (.inl rfl) (pe_lstS (pa_cons (pe_xo (pe_ix ix_list (pv 7) pe_int (fun _ _ => rfl))) (pa_cons (pe_xo (pe_ix ix_list (pv 7) pe_int (fun _ _ => rfl))) (pa_cons (pe_xo (pe_ix ix_list (pv 7) pe_int (fun _ _ => rfl))) (pa_cons (pe_xo (pe_ix ix_list (pv 7) pe_int (fun _ _ => rfl))) (pa_cons (pe_xo (pe_ix ix_list (pv 7) pe_int (fun _ _ => rfl))) (pa_cons (pe_xo (pe_ix ix_list (pv 7) pe_int (fun _ _ => rfl))) pa_nil))))))))
        (pss_cons (ps_set (i := 8) scL.nd rfl (.inl rfl) (pe_op op_catS (pv 8) (pe_lstS (pa_cons (pe_xo (pe_ix ix_list (pv 7) pe_int (fun _ _ => rfl))) (pa_cons (pe_xo (pe_ix ix_list (pv 7) pe_int (fun _ _ => rfl))) (pa_cons (pe_xo (pe_ix ix_list (pv 7) pe_int (fun _ _ => rfl))) (pa_cons (pe_xo (pe_ix ix_list (pv 7) pe_int (fun _ _ => rfl))) pa_nil)))))))
        (pss_cons (ps_if (pt_cmpR op_ne (pe_rep (K := K) (pe_callB (id := "repr") (r := rReprL K) (call_reprL hgd hr.units) (by rfl) T.zrepr boot_rep (pa_cons (pv 8) pa_nil))) (pe_rep (K := K) (pe_callB (id := "repr") (r := rReprL K) (call_reprL hgd hr.units) (by rfl) T.zrepr boot_rep (pa_cons (pe_lstS (pa_cons (pv 4) (pa_cons (pv 4) (pa_cons (pv 4) (pa_cons (pv 5) (pa_cons (pv 4) (pa_cons (pv 4) (pa_cons (pv 4) (pa_cons (pv 4) (pa_cons (pv 5) (pa_cons (pv 4) pa_nil))))))))))) pa_nil))) (nomark _)) (pss_one (ps_ret pe_bl)) pss_nil)
        (pss_cons (ps_for PassesOwn.never rfl (pi_list (pv 7)) (pg_name (i := 9) scL.nd rfl (Or.inl rfl)) (pss_one (ps_if (PW.pt (pw_or (pt_not (pt_val (pe_isi (K := K) (pe_callB (id := "isinstance") (r := rIsO K) call_isO (by rfl) T.zisinstance boot_isi (pa_cons (pv 9) (pa_cons (pe_glob rfl T.gF (v := .ref Cf) rfl) pa_nil)))))) (pw_or1 (pt_not (pt_val (pe_isi (K := K) (pe_callB (id := "isinstance") (r := rIsO K) call_isO (by rfl) T.zisinstance boot_isi (pa_cons (pv 9) (pa_cons (pe_bltn rfl T.zValueError (by decide +kernel) (v := .ty "ValueError") rfl) pa_nil))))))))) (pss_one (ps_ret pe_bl)) pss_nil)))
        (pss_cons (ps_set (i := 10) scL.nd rfl (.inl rfl) (pe_op op_catS (pe_ci (K := K) (i := 7) (j := 9) (c := .ref C0) (pe_lc (own := [("_law_error", 9)]) (g := gName 9) (tt := tYes) rfl scL.nd (pi_list (pv 7)) (blkOk_by (N := ["_law_script", "_law_k", "_law_pool_here", "_law_turn", "_law_one", "_law_other", "_law_made", "_law_some", "_law_kept", "_law_error", "_law_own", "_law_due", "_law_spot", "_law_one_spot"]) (sc := defScope sLaw) (by decide +kernel)) (fun _ _ _ _ _ => pg_name (i := 9) scL.nd rfl (Or.inl rfl)) (fun _ _ _ _ _ => pts_nil) (fun _ _ _ _ _ => pe_callB (id := "isinstance") (r := rIsO K) call_isO (by rfl) T.zisinstance boot_isi (pa_cons (pv 9) (pa_cons (pe_glob rfl T.e0.gC (v := .ref C0) rfl) pa_nil))))) (pe_ci (K := K) (i := 7) (j := 9) (c := .ref C1) (pe_lc (own := [("_law_error", 9)]) (g := gName 9) (tt := tYes) rfl scL.nd (pi_list (pv 7)) (blkOk_by (N := ["_law_script", "_law_k", "_law_pool_here", "_law_turn", "_law_one", "_law_other", "_law_made", "_law_some", "_law_kept", "_law_error", "_law_own", "_law_due", "_law_spot", "_law_one_spot"]) (sc := defScope sLaw) (by decide +kernel)) (fun _ _ _ _ _ => pg_name (i := 9) scL.nd rfl (Or.inl rfl)) (fun _ _ _ _ _ => pts_nil) (fun _ _ _ _ _ => pe_callB (id := "isinstance") (r := rIsO K) call_isO (by rfl) T.zisinstance boot_isi (pa_cons (pv 9) (pa_cons (pe_glob rfl T.e1.gC (v := .ref C1) rfl) pa_nil)))))))
        (pss_cons (ps_set (i := 10) scL.nd rfl (.inl rfl) (pe_op op_catS (pv 10) (pe_ci (K := K) (i := 7) (j := 9) (c := .ref C2) (pe_lc (own := [("_law_error", 9)]) (g := gName 9) (tt := tYes) rfl scL.nd (pi_list (pv 7)) (blkOk_by (N := ["_law_script", "_law_k", "_law_pool_here", "_law_turn", "_law_one", "_law_other", "_law_made", "_law_some", "_law_kept", "_law_error", "_law_own", "_law_due", "_law_spot", "_law_one_spot"]) (sc := defScope sLaw) (by decide +kernel)) (fun _ _ _ _ _ => pg_name (i := 9) scL.nd rfl (Or.inl rfl)) (fun _ _ _ _ _ => pts_nil) (fun _ _ _ _ _ => pe_callB (id := "isinstance") (r := rIsO K) call_isO (by rfl) T.zisinstance boot_isi (pa_cons (pv 9) (pa_cons (pe_glob rfl T.e2.gC (v := .ref C2) rfl) pa_nil)))))))
        (pss_cons (ps_set (i := 10) scL.nd rfl (.inl rfl) (pe_op op_catS (pv 10) (pe_ci (K := K) (i := 7) (j := 9) (c := .ref C3) (pe_lc (own := [("_law_error", 9)]) (g := gName 9) (tt := tYes) rfl scL.nd (pi_list (pv 7)) (blkOk_by (N := ["_law_script", "_law_k", "_law_pool_here", "_law_turn", "_law_one", "_law_other", "_law_made", "_law_some", "_law_kept", "_law_error", "_law_own", "_law_due", "_law_spot", "_law_one_spot"]) (sc := defScope sLaw) (by decide +kernel)) (fun _ _ _ _ _ => pg_name (i := 9) scL.nd rfl (Or.inl rfl)) (fun _ _ _ _ _ => pts_nil) (fun _ _ _ _ _ => pe_callB (id := "isinstance") (r := rIsO K) call_isO (by rfl) T.zisinstance boot_isi (pa_cons (pv 9) (pa_cons (pe_glob rfl T.e3.gC (v := .ref C3) rfl) pa_nil)))))))
        (pss_cons (ps_set (i := 10) scL.nd rfl (.inl rfl) (pe_op op_catS (pv 10) (pe_ci (K := K) (i := 7) (j := 9) (c := .ref C4) (pe_lc (own := [("_law_error", 9)]) (g := gName 9) (tt := tYes) rfl scL.nd (pi_list (pv 7)) (blkOk_by (N := ["_law_script", "_law_k", "_law_pool_here", "_law_turn", "_law_one", "_law_other", "_law_made", "_law_some", "_law_kept", "_law_error", "_law_own", "_law_due", "_law_spot", "_law_one_spot"]) (sc := defScope sLaw) (by decide +kernel)) (fun _ _ _ _ _ => pg_name (i := 9) scL.nd rfl (Or.inl rfl)) (fun _ _ _ _ _ => pts_nil) (fun _ _ _ _ _ => pe_callB (id := "isinstance") (r := rIsO K) call_isO (by rfl) T.zisinstance boot_isi (pa_cons (pv 9) (pa_cons (pe_glob rfl T.e4.gC (v := .ref C4) rfl) pa_nil)))))))
        (pss_cons (ps_set (i := 10) scL.nd rfl (.inl rfl) (pe_op op_catS (pv 10) (pe_ci (K := K) (i := 7) (j := 9) (c := .ref C5) (pe_lc (own := [("_law_error", 9)]) (g := gName 9) (tt := tYes) rfl scL.nd (pi_list (pv 7)) (blkOk_by (N := ["_law_script", "_law_k", "_law_pool_here", "_law_turn", "_law_one", "_law_other", "_law_made", "_law_some", "_law_kept", "_law_error", "_law_own", "_law_due", "_law_spot", "_law_one_spot"]) (sc := defScope sLaw) (by decide +kernel)) (fun _ _ _ _ _ => pg_name (i := 9) scL.nd rfl (Or.inl rfl)) (fun _ _ _ _ _ => pts_nil) (fun _ _ _ _ _ => pe_callB (id := "isinstance") (r := rIsO K) call_isO (by rfl) T.zisinstance boot_isi (pa_cons (pv 9) (pa_cons (pe_glob rfl T.e5.gC (v := .ref C5) rfl) pa_nil)))))))
        (pss_cons (ps_set (i := 10) scL.nd rfl (.inl rfl) (pe_op op_catS (pv 10) (pe_ci (K := K) (i := 7) (j := 9) (c := .ref C6) (pe_lc (own := [("_law_error", 9)]) (g := gName 9) (tt := tYes) rfl scL.nd (pi_list (pv 7)) (blkOk_by (N := ["_law_script", "_law_k", "_law_pool_here", "_law_turn", "_law_one", "_law_other", "_law_made", "_law_some", "_law_kept", "_law_error", "_law_own", "_law_due", "_law_spot", "_law_one_spot"]) (sc := defScope sLaw) (by decide +kernel)) (fun _ _ _ _ _ => pg_name (i := 9) scL.nd rfl (Or.inl rfl)) (fun _ _ _ _ _ => pts_nil) (fun _ _ _ _ _ => pe_callB (id := "isinstance") (r := rIsO K) call_isO (by rfl) T.zisinstance boot_isi (pa_cons (pv 9) (pa_cons (pe_glob rfl T.e6.gC (v := .ref C6) rfl) pa_nil)))))))
        (pss_cons (ps_set (i := 10) scL.nd rfl (.inl rfl) (pe_op op_catS (pv 10) (pe_ci (K := K) (i := 7) (j := 9) (c := .ref C7) (pe_lc (own := [("_law_error", 9)]) (g := gName 9) (tt := tYes) rfl scL.nd (pi_list (pv 7)) (blkOk_by (N := ["_law_script", "_law_k", "_law_pool_here", "_law_turn", "_law_one", "_law_other", "_law_made", "_law_some", "_law_kept", "_law_error", "_law_own", "_law_due", "_law_spot", "_law_one_spot"]) (sc := defScope sLaw) (by decide +kernel)) (fun _ _ _ _ _ => pg_name (i := 9) scL.nd rfl (Or.inl rfl)) (fun _ _ _ _ _ => pts_nil) (fun _ _ _ _ _ => pe_callB (id := "isinstance") (r := rIsO K) call_isO (by rfl) T.zisinstance boot_isi (pa_cons (pv 9) (pa_cons (pe_glob rfl T.e7.gC (v := .ref C7) rfl) pa_nil)))))))
        (pss_cons (ps_set (i := 11) scL.nd rfl (.inl rfl) (pe_lstS pa_nil))
        (pss_cons (ps_for PassesOwn.never rfl (pi_range1 rfl T.zrange (pa_cons pe_int pa_nil)) (pg_name (i := 12) scL.nd rfl (Or.inr rfl)) (pss_one (ps_set (i := 11) scL.nd rfl (.inl rfl) (pe_op op_catS (pv 11) (pe_ce (i := 12) (j := 13) (n := 8) (by decide) (by decide) (pe_lc (own := [("_law_one_spot", 13)]) (g := gName 13) (tt := tYes) rfl scL.nd (pi_range1 rfl T.zrange (pa_cons pe_int pa_nil)) (blkOk_by (N := ["_law_script", "_law_k", "_law_pool_here", "_law_turn", "_law_one", "_law_other", "_law_made", "_law_some", "_law_kept", "_law_error", "_law_own", "_law_due", "_law_spot", "_law_one_spot"]) (sc := defScope sLaw) (by decide +kernel)) (fun _ _ _ _ _ => pg_name (i := 13) scL.nd rfl (Or.inl rfl)) (fun _ _ _ _ _ => pts_nil) (fun _ _ _ _ _ => pe_cmpR op_eq (pv 12) (pv 13) (nomark _))))))))
        (pss_one (ps_if (pt_cmpR (op_neD hr.units) (pv 10) (pv 11) (nomark _)) (pss_one (ps_ret pe_bl)) pss_nil))))))))))))))))))))))))
        (pss_one (ps_ret pe_bl))), ?_⟩
    have hJ : ∀ L : Int, 0 ≤ L → 1 ≤ (if (if (3 : Int) < L then 3 else L) > 1 then (if (3 : Int) < L then 3 else L) else 1) ∧ (if (if (3 : Int) < L then 3 else L) > 1 then (if (3 : Int) < L then 3 else L) else 1) ≤ 3 := by
      intro L hL
      repeat' split
      all_goals omega
    have hJ1 := hJ ((ns.map V.int).length : Int) (Int.natCast_nonneg _)
    refine ⟨.ref a, rfl, a, _, rfl, .inl hS, _, _, rfl, _, _, rfl, _, rfl, ?_, ?_, ?_⟩
    · show -(2 ^ 62) ≤ (if (if (3 : Int) < ((ns.map V.int).length : Int) then 3 else ((ns.map V.int).length : Int)) > 1 then (if (3 : Int) < ((ns.map V.int).length : Int) then 3 else ((ns.map V.int).length : Int)) else 1)
      omega
    · show (if (if (3 : Int) < ((ns.map V.int).length : Int) then 3 else ((ns.map V.int).length : Int)) > 1 then (if (3 : Int) < ((ns.map V.int).length : Int) then 3 else ((ns.map V.int).length : Int)) else 1) < 2 ^ 62
      omega
    refine for_range (fun i σ H' => ∃ y1 y2 y3 y4 y5 y6 y7 y8 y9 y10 y11 y12 y13, σ = [some (.ref a), y1, y2, y3, y4, y5, y6, y7, y8, y9, y10, y11, y12, y13] ∧ Same H H') ⟨_, _, _, _, _, _, _, _, _, _, _, _, _, rfl, Same.refl H⟩ ?_ (fun σ H' _ => k H')
    rintro i σ H1 hi ⟨y1, y2, y3, y4, y5, y6, y7, y8, y9, y10, y11, y12, y13, rfl, s1⟩
    have hi3 : i < 3 := by
      have : i < (if (if (3 : Int) < ((ns.map V.int).length : Int) then 3 else ((ns.map V.int).length : Int)) > 1 then (if (3 : Int) < ((ns.map V.int).length : Int) then 3 else ((ns.map V.int).length : Int)) else 1).toNat := hi
      omega
    refine ⟨.ref a, rfl, .int (0 + (i : Int)), rfl, a, ns, i, by simp, s1.seq hS, hi3, hlen, fun H2 p g z s2 np hp hg hz hz' => ?_⟩
    have np0 : H p = none := s1.free np
    refine ⟨6, rfl, by decide, by decide, ?_⟩
    refine for_range (fun j σ H' => ∃ y3 y4 y5 y6 y7 y8 y9 y10 y11 y12 y13, σ = [some (.ref a), some (.int (0 + (i : Int))), some (.ref p), y3, y4, y5, y6, y7, y8, y9, y10, y11, y12, y13] ∧ Same H H' ∧ ∃ g z : Int, H' p = some (.lst [.int g, .int z]) ∧ 0 ≤ g ∧ 0 ≤ z ∧ z < 2147483647)
      ⟨_, _, _, _, _, _, _, _, _, _, _, rfl, s1.trans s2, g, z, hp, hg, hz, hz'⟩ ?_ (fun σ H' ⟨_, _, _, _, _, _, _, _, _, _, _, e, s, _⟩ => ⟨_, _, _, _, _, _, _, _, _, _, _, _, _, e, s⟩)
    clear hp hg hz hz'
    rintro j σ H3 hj ⟨y3, y4, y5, y6, y7, y8, y9, y10, y11, y12, y13, rfl, s3, g, z, hp, hg, hz, hz'⟩
    refine ⟨.ref p, rfl, p, g, z, rfl, hp, hg, hz, hz', fun H4 q v1 v2 d1 d2 g4 z4 o4 hp4 hg4 hz4 hz4' nq hq N1 N2 => ?_⟩
    have s4 : Same H H4 := Off.same s3 np0 o4
    refine ⟨q, [v1, v2], rfl, SqL.of hq, rfl, v1, [v2], rfl, v2, [], rfl, rfl, ?_⟩
    clear s1 s2 s3 o4 hq
    refine ⟨v1, rfl, fun a0 H5 s5 n5 E0 => ?_⟩
    refine ⟨v1, rfl, fun a1 H6 s6 n6 E1 => ?_⟩
    refine ⟨v1, v2, rfl, rfl, fun a2 H7 s7 n7 E2 => ?_⟩
    refine ⟨v1, rfl, fun a3 H8 s8 n8 E3 => ?_⟩
    refine ⟨v1, rfl, fun a4 H9 s9 n9 E4 => ?_⟩
    refine ⟨by simp, fun l1 H10 s10 n10 hl1 => ?_⟩
    refine ⟨.ref l1, rfl, ?_⟩
    refine ⟨v1, rfl, fun a5 H11 s11 n11 E5 => ?_⟩
    refine ⟨v1, v2, rfl, rfl, fun a6 H12 s12 n12 E6 => ?_⟩
    refine ⟨v1, rfl, fun a7 H13 s13 n13 E7 => ?_⟩
    refine ⟨by simp, fun l2 H14 s14 n14 hl2 => ?_⟩
    refine ⟨_, _, _, _, rfl, rfl, (s11.trans (s12.trans (s13.trans (s14)))) _ _ hl1, hl2, by simp, fun l H15 s15 nl hl => ?_⟩
    have t4 := (s5.trans (s6.trans (s7.trans (s8.trans (s9.trans (s10.trans (s11.trans (s12.trans (s13.trans (s14.trans (s15)))))))))))
    replace E0 := E0.mono (s6.trans (s7.trans (s8.trans (s9.trans (s10.trans (s11.trans (s12.trans (s13.trans (s14.trans (s15))))))))))
    replace E1 := E1.mono (s7.trans (s8.trans (s9.trans (s10.trans (s11.trans (s12.trans (s13.trans (s14.trans (s15)))))))))
    replace E2 := E2.mono (s8.trans (s9.trans (s10.trans (s11.trans (s12.trans (s13.trans (s14.trans (s15))))))))
    replace E3 := E3.mono (s9.trans (s10.trans (s11.trans (s12.trans (s13.trans (s14.trans (s15)))))))
    replace E4 := E4.mono (s10.trans (s11.trans (s12.trans (s13.trans (s14.trans (s15))))))
    replace E5 := E5.mono (s12.trans (s13.trans (s14.trans (s15))))
    replace E6 := E6.mono (s13.trans (s14.trans (s15)))
    replace E7 := E7.mono (s14.trans (s15))
    replace N1 := N1.mono t4
    replace N2 := N2.mono t4
    replace s4 := s4.trans t4
    replace hp4 := t4 _ _ hp4
    have xl : H15 l = some (.lst [.ref a0, .ref a1, .ref a2, .ref a3, .ref a4, .ref a5, .ref a6, .ref a7]) := hl
    clear hl hl1 hl2 t4 s5 s6 s7 s8 s9 s10 s11 s12 s13 s14 s15 n5 n6 n7 n8 n9 n10 n11 n12 n13 n14
    refine ⟨.ref l, rfl, by simp, fun dl HA sA nA hdl => ⟨dl, rfl, ⟨_, SqL.of hdl⟩, ?_⟩⟩
    refine for_list (K := K) (a := dl) (xs := [.ref l]) (fun i1 σ H' => ∃ y7 y8 y9 y10 y11 y12 y13, σ = [some (.ref a), some (.int (0 + (i : Int))), some (.ref p), some (.int (0 + (j : Int))), some v1, some v2, some (.ref l), y7, y8, y9, y10, y11, y12, y13] ∧ Same HA H')
      ⟨_, _, _, _, _, _, _, rfl, Same.refl HA⟩ (fun i1 σ H' _ ⟨_, _, _, _, _, _, _, _, s⟩ => s.seq (SqL.of hdl)) ?_ (fun σ H' ⟨_, _, _, _, _, _, _, e, s⟩ => ⟨_, _, _, _, _, _, _, _, _, _, _, e, s4.trans (sA.trans s), g4, z4, s _ _ (sA _ _ hp4), hg4, hz4, hz4'⟩)
    rintro i1 x σ HB hx ⟨y7, y8, y9, y10, y11, y12, y13, rfl, sB⟩
    obtain rfl : x = .ref l := by
      cases i1 with
      | zero => simpa using hx.symm
      | succ m => simp at hx
    have tB : Same H15 HB := sA.trans sB
    replace E0 := E0.mono tB
    replace E1 := E1.mono tB
    replace E2 := E2.mono tB
    replace E3 := E3.mono tB
    replace E4 := E4.mono tB
    replace E5 := E5.mono tB
    replace E6 := E6.mono tB
    replace E7 := E7.mono tB
    replace N1 := N1.mono tB
    replace N2 := N2.mono tB
    replace xl := tB _ _ xl
    have kF : ∀ u, RelV (V.ref Cf) u → u = Value.ref Cf := fun u h => h
    have kV : ∀ u, RelV (V.ty "ValueError") u → u = Value.type "ValueError" := fun u h => h
    have IF : Isi K HB (.ref Cf) [.ref a0, .ref a1, .ref a2, .ref a3, .ref a4, .ref a5, .ref a6, .ref a7] [true, true, true, true, true, true, true, true] :=
      .cons E0 T.e0.ec (kit_own T.hF T.tF T.sF0 (fun _ => rfl)) (.cons E1 T.e1.ec (kit_own T.hF T.tF T.sF1 (fun _ => rfl)) (.cons E2 T.e2.ec (kit_own T.hF T.tF T.sF2 (fun _ => rfl)) (.cons E3 T.e3.ec (kit_own T.hF T.tF T.sF3 (fun _ => rfl)) (.cons E4 T.e4.ec (kit_own T.hF T.tF T.sF4 (fun _ => rfl)) (.cons E5 T.e5.ec (kit_own T.hF T.tF T.sF5 (fun _ => rfl)) (.cons E6 T.e6.ec (kit_own T.hF T.tF T.sF6 (fun _ => rfl)) (.cons E7 T.e7.ec (kit_own T.hF T.tF T.sF7 (fun _ => rfl)) (.nil))))))))
    have IV : Isi K HB (.type "ValueError") [.ref a0, .ref a1, .ref a2, .ref a3, .ref a4, .ref a5, .ref a6, .ref a7] [true, true, true, true, true, true, true, true] :=
      .cons E0 T.e0.ec (kit_ve T.sV0) (.cons E1 T.e1.ec (kit_ve T.sV1) (.cons E2 T.e2.ec (kit_ve T.sV2) (.cons E3 T.e3.ec (kit_ve T.sV3) (.cons E4 T.e4.ec (kit_ve T.sV4) (.cons E5 T.e5.ec (kit_ve T.sV5) (.cons E6 T.e6.ec (kit_ve T.sV6) (.cons E7 T.e7.ec (kit_ve T.sV7) (.nil))))))))
    have I0 : Isi K HB (.ref C0) [.ref a0, .ref a1, .ref a2, .ref a3, .ref a4, .ref a5, .ref a6, .ref a7] [true, false, false, false, false, false, false, false] :=
      .cons E0 T.e0.ec (kit_own T.e0.ec.hd T.e0.oex.tyC T.s0_0 (fun _ => rfl)) (.cons E1 T.e1.ec (kit_own T.e0.ec.hd T.e0.oex.tyC T.s1_0 (ne_cls T.e1.oex.tyC T.s1_0 T.s0_0)) (.cons E2 T.e2.ec (kit_own T.e0.ec.hd T.e0.oex.tyC T.s2_0 (ne_cls T.e2.oex.tyC T.s2_0 T.s0_0)) (.cons E3 T.e3.ec (kit_own T.e0.ec.hd T.e0.oex.tyC T.s3_0 (ne_cls T.e3.oex.tyC T.s3_0 T.s0_0)) (.cons E4 T.e4.ec (kit_own T.e0.ec.hd T.e0.oex.tyC T.s4_0 (ne_cls T.e4.oex.tyC T.s4_0 T.s0_0)) (.cons E5 T.e5.ec (kit_own T.e0.ec.hd T.e0.oex.tyC T.s5_0 (ne_cls T.e5.oex.tyC T.s5_0 T.s0_0)) (.cons E6 T.e6.ec (kit_own T.e0.ec.hd T.e0.oex.tyC T.s6_0 (ne_cls T.e6.oex.tyC T.s6_0 T.s0_0)) (.cons E7 T.e7.ec (kit_own T.e0.ec.hd T.e0.oex.tyC T.s7_0 (ne_cls T.e7.oex.tyC T.s7_0 T.s0_0)) (.nil))))))))
    have I1 : Isi K HB (.ref C1) [.ref a0, .ref a1, .ref a2, .ref a3, .ref a4, .ref a5, .ref a6, .ref a7] [false, true, false, false, false, false, false, false] :=
      .cons E0 T.e0.ec (kit_own T.e1.ec.hd T.e1.oex.tyC T.s0_1 (ne_cls T.e0.oex.tyC T.s0_1 T.s1_1)) (.cons E1 T.e1.ec (kit_own T.e1.ec.hd T.e1.oex.tyC T.s1_1 (fun _ => rfl)) (.cons E2 T.e2.ec (kit_own T.e1.ec.hd T.e1.oex.tyC T.s2_1 (ne_cls T.e2.oex.tyC T.s2_1 T.s1_1)) (.cons E3 T.e3.ec (kit_own T.e1.ec.hd T.e1.oex.tyC T.s3_1 (ne_cls T.e3.oex.tyC T.s3_1 T.s1_1)) (.cons E4 T.e4.ec (kit_own T.e1.ec.hd T.e1.oex.tyC T.s4_1 (ne_cls T.e4.oex.tyC T.s4_1 T.s1_1)) (.cons E5 T.e5.ec (kit_own T.e1.ec.hd T.e1.oex.tyC T.s5_1 (ne_cls T.e5.oex.tyC T.s5_1 T.s1_1)) (.cons E6 T.e6.ec (kit_own T.e1.ec.hd T.e1.oex.tyC T.s6_1 (ne_cls T.e6.oex.tyC T.s6_1 T.s1_1)) (.cons E7 T.e7.ec (kit_own T.e1.ec.hd T.e1.oex.tyC T.s7_1 (ne_cls T.e7.oex.tyC T.s7_1 T.s1_1)) (.nil))))))))
    have I2 : Isi K HB (.ref C2) [.ref a0, .ref a1, .ref a2, .ref a3, .ref a4, .ref a5, .ref a6, .ref a7] [false, false, true, false, false, false, false, false] :=
      .cons E0 T.e0.ec (kit_own T.e2.ec.hd T.e2.oex.tyC T.s0_2 (ne_cls T.e0.oex.tyC T.s0_2 T.s2_2)) (.cons E1 T.e1.ec (kit_own T.e2.ec.hd T.e2.oex.tyC T.s1_2 (ne_cls T.e1.oex.tyC T.s1_2 T.s2_2)) (.cons E2 T.e2.ec (kit_own T.e2.ec.hd T.e2.oex.tyC T.s2_2 (fun _ => rfl)) (.cons E3 T.e3.ec (kit_own T.e2.ec.hd T.e2.oex.tyC T.s3_2 (ne_cls T.e3.oex.tyC T.s3_2 T.s2_2)) (.cons E4 T.e4.ec (kit_own T.e2.ec.hd T.e2.oex.tyC T.s4_2 (ne_cls T.e4.oex.tyC T.s4_2 T.s2_2)) (.cons E5 T.e5.ec (kit_own T.e2.ec.hd T.e2.oex.tyC T.s5_2 (ne_cls T.e5.oex.tyC T.s5_2 T.s2_2)) (.cons E6 T.e6.ec (kit_own T.e2.ec.hd T.e2.oex.tyC T.s6_2 (ne_cls T.e6.oex.tyC T.s6_2 T.s2_2)) (.cons E7 T.e7.ec (kit_own T.e2.ec.hd T.e2.oex.tyC T.s7_2 (ne_cls T.e7.oex.tyC T.s7_2 T.s2_2)) (.nil))))))))
    have I3 : Isi K HB (.ref C3) [.ref a0, .ref a1, .ref a2, .ref a3, .ref a4, .ref a5, .ref a6, .ref a7] [false, false, false, true, false, false, false, false] :=
      .cons E0 T.e0.ec (kit_own T.e3.ec.hd T.e3.oex.tyC T.s0_3 (ne_cls T.e0.oex.tyC T.s0_3 T.s3_3)) (.cons E1 T.e1.ec (kit_own T.e3.ec.hd T.e3.oex.tyC T.s1_3 (ne_cls T.e1.oex.tyC T.s1_3 T.s3_3)) (.cons E2 T.e2.ec (kit_own T.e3.ec.hd T.e3.oex.tyC T.s2_3 (ne_cls T.e2.oex.tyC T.s2_3 T.s3_3)) (.cons E3 T.e3.ec (kit_own T.e3.ec.hd T.e3.oex.tyC T.s3_3 (fun _ => rfl)) (.cons E4 T.e4.ec (kit_own T.e3.ec.hd T.e3.oex.tyC T.s4_3 (ne_cls T.e4.oex.tyC T.s4_3 T.s3_3)) (.cons E5 T.e5.ec (kit_own T.e3.ec.hd T.e3.oex.tyC T.s5_3 (ne_cls T.e5.oex.tyC T.s5_3 T.s3_3)) (.cons E6 T.e6.ec (kit_own T.e3.ec.hd T.e3.oex.tyC T.s6_3 (ne_cls T.e6.oex.tyC T.s6_3 T.s3_3)) (.cons E7 T.e7.ec (kit_own T.e3.ec.hd T.e3.oex.tyC T.s7_3 (ne_cls T.e7.oex.tyC T.s7_3 T.s3_3)) (.nil))))))))
    have I4 : Isi K HB (.ref C4) [.ref a0, .ref a1, .ref a2, .ref a3, .ref a4, .ref a5, .ref a6, .ref a7] [false, false, false, false, true, false, false, false] :=
      .cons E0 T.e0.ec (kit_own T.e4.ec.hd T.e4.oex.tyC T.s0_4 (ne_cls T.e0.oex.tyC T.s0_4 T.s4_4)) (.cons E1 T.e1.ec (kit_own T.e4.ec.hd T.e4.oex.tyC T.s1_4 (ne_cls T.e1.oex.tyC T.s1_4 T.s4_4)) (.cons E2 T.e2.ec (kit_own T.e4.ec.hd T.e4.oex.tyC T.s2_4 (ne_cls T.e2.oex.tyC T.s2_4 T.s4_4)) (.cons E3 T.e3.ec (kit_own T.e4.ec.hd T.e4.oex.tyC T.s3_4 (ne_cls T.e3.oex.tyC T.s3_4 T.s4_4)) (.cons E4 T.e4.ec (kit_own T.e4.ec.hd T.e4.oex.tyC T.s4_4 (fun _ => rfl)) (.cons E5 T.e5.ec (kit_own T.e4.ec.hd T.e4.oex.tyC T.s5_4 (ne_cls T.e5.oex.tyC T.s5_4 T.s4_4)) (.cons E6 T.e6.ec (kit_own T.e4.ec.hd T.e4.oex.tyC T.s6_4 (ne_cls T.e6.oex.tyC T.s6_4 T.s4_4)) (.cons E7 T.e7.ec (kit_own T.e4.ec.hd T.e4.oex.tyC T.s7_4 (ne_cls T.e7.oex.tyC T.s7_4 T.s4_4)) (.nil))))))))
    have I5 : Isi K HB (.ref C5) [.ref a0, .ref a1, .ref a2, .ref a3, .ref a4, .ref a5, .ref a6, .ref a7] [false, false, false, false, false, true, false, false] :=
      .cons E0 T.e0.ec (kit_own T.e5.ec.hd T.e5.oex.tyC T.s0_5 (ne_cls T.e0.oex.tyC T.s0_5 T.s5_5)) (.cons E1 T.e1.ec (kit_own T.e5.ec.hd T.e5.oex.tyC T.s1_5 (ne_cls T.e1.oex.tyC T.s1_5 T.s5_5)) (.cons E2 T.e2.ec (kit_own T.e5.ec.hd T.e5.oex.tyC T.s2_5 (ne_cls T.e2.oex.tyC T.s2_5 T.s5_5)) (.cons E3 T.e3.ec (kit_own T.e5.ec.hd T.e5.oex.tyC T.s3_5 (ne_cls T.e3.oex.tyC T.s3_5 T.s5_5)) (.cons E4 T.e4.ec (kit_own T.e5.ec.hd T.e5.oex.tyC T.s4_5 (ne_cls T.e4.oex.tyC T.s4_5 T.s5_5)) (.cons E5 T.e5.ec (kit_own T.e5.ec.hd T.e5.oex.tyC T.s5_5 (fun _ => rfl)) (.cons E6 T.e6.ec (kit_own T.e5.ec.hd T.e5.oex.tyC T.s6_5 (ne_cls T.e6.oex.tyC T.s6_5 T.s5_5)) (.cons E7 T.e7.ec (kit_own T.e5.ec.hd T.e5.oex.tyC T.s7_5 (ne_cls T.e7.oex.tyC T.s7_5 T.s5_5)) (.nil))))))))
    have I6 : Isi K HB (.ref C6) [.ref a0, .ref a1, .ref a2, .ref a3, .ref a4, .ref a5, .ref a6, .ref a7] [false, false, false, false, false, false, true, false] :=
      .cons E0 T.e0.ec (kit_own T.e6.ec.hd T.e6.oex.tyC T.s0_6 (ne_cls T.e0.oex.tyC T.s0_6 T.s6_6)) (.cons E1 T.e1.ec (kit_own T.e6.ec.hd T.e6.oex.tyC T.s1_6 (ne_cls T.e1.oex.tyC T.s1_6 T.s6_6)) (.cons E2 T.e2.ec (kit_own T.e6.ec.hd T.e6.oex.tyC T.s2_6 (ne_cls T.e2.oex.tyC T.s2_6 T.s6_6)) (.cons E3 T.e3.ec (kit_own T.e6.ec.hd T.e6.oex.tyC T.s3_6 (ne_cls T.e3.oex.tyC T.s3_6 T.s6_6)) (.cons E4 T.e4.ec (kit_own T.e6.ec.hd T.e6.oex.tyC T.s4_6 (ne_cls T.e4.oex.tyC T.s4_6 T.s6_6)) (.cons E5 T.e5.ec (kit_own T.e6.ec.hd T.e6.oex.tyC T.s5_6 (ne_cls T.e5.oex.tyC T.s5_6 T.s6_6)) (.cons E6 T.e6.ec (kit_own T.e6.ec.hd T.e6.oex.tyC T.s6_6 (fun _ => rfl)) (.cons E7 T.e7.ec (kit_own T.e6.ec.hd T.e6.oex.tyC T.s7_6 (ne_cls T.e7.oex.tyC T.s7_6 T.s6_6)) (.nil))))))))
    have I7 : Isi K HB (.ref C7) [.ref a0, .ref a1, .ref a2, .ref a3, .ref a4, .ref a5, .ref a6, .ref a7] [false, false, false, false, false, false, false, true] :=
      .cons E0 T.e0.ec (kit_own T.e7.ec.hd T.e7.oex.tyC T.s0_7 (ne_cls T.e0.oex.tyC T.s0_7 T.s7_7)) (.cons E1 T.e1.ec (kit_own T.e7.ec.hd T.e7.oex.tyC T.s1_7 (ne_cls T.e1.oex.tyC T.s1_7 T.s7_7)) (.cons E2 T.e2.ec (kit_own T.e7.ec.hd T.e7.oex.tyC T.s2_7 (ne_cls T.e2.oex.tyC T.s2_7 T.s7_7)) (.cons E3 T.e3.ec (kit_own T.e7.ec.hd T.e7.oex.tyC T.s3_7 (ne_cls T.e3.oex.tyC T.s3_7 T.s7_7)) (.cons E4 T.e4.ec (kit_own T.e7.ec.hd T.e7.oex.tyC T.s4_7 (ne_cls T.e4.oex.tyC T.s4_7 T.s7_7)) (.cons E5 T.e5.ec (kit_own T.e7.ec.hd T.e7.oex.tyC T.s5_7 (ne_cls T.e5.oex.tyC T.s5_7 T.s7_7)) (.cons E6 T.e6.ec (kit_own T.e7.ec.hd T.e7.oex.tyC T.s6_7 (ne_cls T.e6.oex.tyC T.s6_7 T.s7_7)) (.cons E7 T.e7.ec (kit_own T.e7.ec.hd T.e7.oex.tyC T.s7_7 (fun _ => rfl)) (.nil))))))))
    refine rd_at (i := 0) rfl xl rfl E0 T.e0.xf T.n0_row rfl ?_
    refine rd_at (i := 1) rfl xl rfl E1 T.e1.xf T.n1_value rfl ?_
    refine rd_at (i := 2) rfl xl rfl E2 T.e2.xf T.n2_module rfl ?_
    refine rd_at (i := 2) rfl xl rfl E2 T.e2.xf T.n2_row rfl ?_
    refine rd_at (i := 3) rfl xl rfl E3 T.e3.xf T.n3_value rfl ?_
    refine rd_at (i := 4) rfl xl rfl E4 T.e4.xf T.n4_value rfl ?_
    refine ⟨by simp, fun k1 HC sC nC hk1 => ?_⟩
    refine ⟨.ref k1, rfl, ?_⟩
    replace E0 := E0.mono sC
    replace E1 := E1.mono sC
    replace E2 := E2.mono sC
    replace E3 := E3.mono sC
    replace E4 := E4.mono sC
    replace E5 := E5.mono sC
    replace E6 := E6.mono sC
    replace E7 := E7.mono sC
    replace xl := sC _ _ xl
    refine rd_at (i := 5) rfl xl rfl E5 T.e5.xf T.n5_limit rfl ?_
    refine rd_at (i := 6) rfl xl rfl E6 T.e6.xf T.n6_one rfl ?_
    refine rd_at (i := 6) rfl xl rfl E6 T.e6.xf T.n6_other rfl ?_
    refine rd_at (i := 7) rfl xl rfl E7 T.e7.xf T.n7_moment rfl ?_
    refine ⟨by simp, fun k2 HD sD nD hk2 => ?_⟩
    refine ⟨_, _, _, _, rfl, rfl, sD _ _ hk1, hk2, by simp, fun kp HE sE nE hkp => ?_⟩
    have tE : Same HB HE := sC.trans (sD.trans sE)
    replace N1 := N1.mono tE
    replace N2 := N2.mono tE
    have NN : ∀ {H' : Hp}, Same HE H' → NiceAll K H' [v1, v1, v1, v2, v1, v1, v1, v1, v2, v1] [d1, d1, d1, d2, d1, d1, d1, d1, d2, d1] := fun s =>
      .cons (N1.mono s) (.cons (N1.mono s) (.cons (N1.mono s) (.cons (N2.mono s) (.cons (N1.mono s) (.cons (N1.mono s) (.cons (N1.mono s) (.cons (N1.mono s) (.cons (N2.mono s) (.cons (N1.mono s) .nil)))))))))
    refine ⟨.ref kp, rfl, rp hkp (NN (Same.refl HE)) (by simp) ?_⟩
    refine ⟨v1, rfl, v1, rfl, v1, rfl, v2, rfl, v1, rfl, v1, rfl, v1, rfl, v1, rfl, v2, rfl, v1, rfl, by simp, fun kq HF sF nF hkq => ?_⟩
    refine rp hkq (NN sF) (by simp) ⟨rfl, _, rfl, iteNS rfl ?_⟩
    have tF : Same HB HF := tE.trans sF
    replace xl := sF _ _ (sE _ _ (sD _ _ xl))
    clear sC sD sE sF hk1 hk2 hkp hkq nC nD nF E0 E1 E2 E3 E4 E5 E6 E7 N1 N2
    replace IF := IF.mono tF
    replace IV := IV.mono tF
    replace I0 := I0.mono tF
    replace I1 := I1.mono tF
    replace I2 := I2.mono tF
    replace I3 := I3.mono tF
    replace I4 := I4.mono tF
    replace I5 := I5.mono tF
    replace I6 := I6.mono tF
    replace I7 := I7.mono tF
    refine ⟨.ref l, rfl, l, rfl, ⟨_, SqL.of xl⟩, ?_⟩
    refine for_list (K := K) (a := l) (xs := [.ref a0, .ref a1, .ref a2, .ref a3, .ref a4, .ref a5, .ref a6, .ref a7]) (fun i2 σ H' => ∃ y9, σ = [some (.ref a), some (.int (0 + (i : Int))), some (.ref p), some (.int (0 + (j : Int))), some v1, some v2, some (.ref l), some (.ref l), some (.ref kp), y9, y10, y11, y12, y13] ∧ Same HF H')
      ⟨_, rfl, Same.refl HF⟩ (fun i2 σ H' _ ⟨_, _, s⟩ => s.seq (SqL.of xl)) ?_ ?_
    · rintro i2 x σ HG hx ⟨y9, rfl, sG⟩
      obtain ⟨e, C, fs, b, rfl, h1, h2, h3, h4⟩ := (IF.mono sG).get hx
      obtain ⟨e', C', fs', b', q1, h1', h2', h3', h4'⟩ := (IV.mono sG).get hx
      obtain rfl : e = e' := by cases q1; rfl
      have hb : ∀ (b : Bool), ([true, true, true, true, true, true, true, true] : List Bool)[i2]? = some b → b = true := fun b hb => by
        have := List.mem_of_getElem? hb
        simpa using this
      obtain rfl := hb b h4
      obtain rfl := hb b' h4'
      refine ⟨.ref e, rfl, isi_one h1 h2 kF h3 ⟨true, rfl, iteF ?_⟩⟩
      refine ⟨.ref e, rfl, isi_one h1' h2' kV h3' ⟨true, rfl, iteF ?_⟩⟩
      exact ⟨_, rfl, sG⟩
    rintro σ HG ⟨y9, rfl, sG⟩
    replace xl := sG _ _ xl
    replace I0 := I0.mono sG
    replace I1 := I1.mono sG
    replace I2 := I2.mono sG
    replace I3 := I3.mono sG
    replace I4 := I4.mono sG
    replace I5 := I5.mono sG
    replace I6 := I6.mono sG
    replace I7 := I7.mono sG
    have kk : ∀ C : Addr, ∀ u, RelV (V.ref C) u → u = Value.ref C := fun C u h => h
    refine ⟨l, _, _, _, rfl, SqL.of xl, I0, kk _, by simp, by simp, fun b0 G0 r0 hb0 => ?_⟩
    refine ⟨l, _, _, _, rfl, SqL.of (r0 _ _ xl), I1.mono r0, kk _, by simp, by simp, fun b1 G1 r1 hb1 => ?_⟩
    refine ⟨_, _, _, _, rfl, rfl, r1 _ _ hb0, hb1, by simp, fun o1 G2 r2 no1 ho1 => ?_⟩
    have q1 := r0.trans (r1.trans r2)
    refine ⟨.ref o1, rfl, ?_⟩
    refine ⟨l, _, _, _, rfl, SqL.of (q1 _ _ xl), I2.mono q1, kk _, by simp, by simp, fun b2 M2 r3 hb2 => ?_⟩
    refine ⟨_, _, _, _, rfl, rfl, r3 _ _ ho1, hb2, by simp, fun o2 W2 r4 no2 ho2 => ?_⟩
    have q2 := q1.trans (r3.trans r4)
    refine ⟨.ref o2, rfl, ?_⟩
    refine ⟨l, _, _, _, rfl, SqL.of (q2 _ _ xl), I3.mono q2, kk _, by simp, by simp, fun b3 M3 r5 hb3 => ?_⟩
    refine ⟨_, _, _, _, rfl, rfl, r5 _ _ ho2, hb3, by simp, fun o3 W3 r6 no3 ho3 => ?_⟩
    have q3 := q2.trans (r5.trans r6)
    refine ⟨.ref o3, rfl, ?_⟩
    refine ⟨l, _, _, _, rfl, SqL.of (q3 _ _ xl), I4.mono q3, kk _, by simp, by simp, fun b4 M4 r7 hb4 => ?_⟩
    refine ⟨_, _, _, _, rfl, rfl, r7 _ _ ho3, hb4, by simp, fun o4 W4 r8 no4 ho4 => ?_⟩
    have q4 := q3.trans (r7.trans r8)
    refine ⟨.ref o4, rfl, ?_⟩
    refine ⟨l, _, _, _, rfl, SqL.of (q4 _ _ xl), I5.mono q4, kk _, by simp, by simp, fun b5 M5 r9 hb5 => ?_⟩
    refine ⟨_, _, _, _, rfl, rfl, r9 _ _ ho4, hb5, by simp, fun o5 W5 r10 no5 ho5 => ?_⟩
    have q5 := q4.trans (r9.trans r10)
    refine ⟨.ref o5, rfl, ?_⟩
    refine ⟨l, _, _, _, rfl, SqL.of (q5 _ _ xl), I6.mono q5, kk _, by simp, by simp, fun b6 M6 r11 hb6 => ?_⟩
    refine ⟨_, _, _, _, rfl, rfl, r11 _ _ ho5, hb6, by simp, fun o6 W6 r12 no6 ho6 => ?_⟩
    have q6 := q5.trans (r11.trans r12)
    refine ⟨.ref o6, rfl, ?_⟩
    refine ⟨l, _, _, _, rfl, SqL.of (q6 _ _ xl), I7.mono q6, kk _, by simp, by simp, fun b7 M7 r13 hb7 => ?_⟩
    refine ⟨_, _, _, _, rfl, rfl, r13 _ _ ho6, hb7, by simp, fun o7 W7 r14 no7 ho7 => ?_⟩
    have q7 := q6.trans (r13.trans r14)
    have own : W7 o7 = some (.lst (([true, false, false, false, false, false, false, false, false, true, false, false, false, false, false, false, false, false, true, false, false, false, false, false, false, false, false, true, false, false, false, false, false, false, false, false, true, false, false, false, false, false, false, false, false, true, false, false, false, false, false, false, false, false, true, false, false, false, false, false, false, false, false, true] : List Bool).map V.bl)) := ho7
    refine ⟨by simp, fun u0 V0 t0 m0 hu0 => ?_⟩
    refine ⟨8, rfl, by decide, by decide, ?_⟩
    refine for_range (fun i3 σ H' => ∃ y12 u, σ = [some (.ref a), some (.int (0 + (i : Int))), some (.ref p), some (.int (0 + (j : Int))), some v1, some v2, some (.ref l), some (.ref l), some (.ref kp), y9, some (.ref o7), some (.ref u), y12, y13] ∧ Same V0 H' ∧ H' u = some (.lst ((due i3).map V.bl))) ⟨_, u0, rfl, Same.refl V0, hu0⟩ ?_ ?_
    · rintro i3 σ HH hi3' ⟨y12, u, rfl, sH, hu⟩
      have hi8 : i3 < 8 := hi3'
      refine ⟨.ref u, rfl, ?_⟩
      refine ⟨_, rfl, by simp, fun D M sM hD => ?_⟩
      refine ⟨_, _, _, _, rfl, rfl, sM _ _ hu, hD, ?_, fun D2 M2 sM2 nD2 hD2 => ⟨_, D2, rfl, sH.trans (sM.trans sM2), ?_⟩⟩
      · have := due_len i3
        simp only [List.length_map, List.length_range]
        omega
      · rw [hD2, due_succ]
    rintro σ HH ⟨y12, u, rfl, sH, hu⟩
    refine ⟨.ref o7, rfl, .ref u, rfl, _, _, dp_bools (sH _ _ (t0 _ _ own)), dp_bools hu, by decide +kernel, by decide +kernel, _, rfl, ?_⟩
    have ee : PyData.eqv (.list ((([true, false, false, false, false, false, false, false, false, true, false, false, false, false, false, false, false, false, true, false, false, false, false, false, false, false, false, true, false, false, false, false, false, false, false, false, true, false, false, false, false, false, false, false, false, true, false, false, false, false, false, false, false, false, true, false, false, false, false, false, false, false, false, true] : List Bool)).map PyData.bool)) (.list ((due 8).map PyData.bool)) = true := by decide +kernel
    show (if (!PyData.eqv (.list ((([true, false, false, false, false, false, false, false, false, true, false, false, false, false, false, false, false, false, true, false, false, false, false, false, false, false, false, true, false, false, false, false, false, false, false, false, true, false, false, false, false, false, false, false, false, true, false, false, false, false, false, false, false, false, true, false, false, false, false, false, false, false, false, true] : List Bool)).map PyData.bool)) (.list ((due 8).map PyData.bool))) = true then _ else _)
    rw [ee]
    refine iteF ?_
    exact ⟨_, _, _, _, _, _, _, rfl, sB.trans (tF.trans (sG.trans (q7.trans (t0.trans sH))))⟩
end
end K12

set_option Elab.async false
set_option linter.all false
set_option maxRecDepth 100000
set_option maxHeartbeats 8000000
namespace K12
open PySem PySem.Spec PyProof.Rows L2 FS
theorem all_mk {l : PySem.W.OpenLaw} {w : World} {K : PySem.W.Frag} {h : Heap} {mg : Str → Option Value} {fa fP fT fV fL Cf C0 f0 C1 f1 C2 f2 C3 f3 C4 f4 C5 f5 C6 f6 C7 f7 : Addr} (X : K.In h) (G : h.Ns mainGlobals mg) (hfa : mg "law" = some (.ref fa))
    {n10 q0 : Str} {N0 : Addr} {bs0 bm0 : List Value} {sn0 : List Str} {sub0 : List Value} {ab0 : Bool} {col0 : Option Bool} {dd0 : Option Addr} {m00 m10 m20 m30 m50 : Option Value}
    {ocI0 kVI0 dcI0 pmI0 cdI0 ctI0 : Value} {odI0 anI0 : Option Addr} {slI0 : Array (Option Value)}
    {n11 q1 : Str} {N1 : Addr} {bs1 bm1 : List Value} {sn1 : List Str} {sub1 : List Value} {ab1 : Bool} {col1 : Option Bool} {dd1 : Option Addr} {m01 m11 m21 m31 m51 : Option Value}
    {ocI1 kVI1 dcI1 pmI1 cdI1 ctI1 : Value} {odI1 anI1 : Option Addr} {slI1 : Array (Option Value)}
    {n12 q2 : Str} {N2 : Addr} {bs2 bm2 : List Value} {sn2 : List Str} {sub2 : List Value} {ab2 : Bool} {col2 : Option Bool} {dd2 : Option Addr} {m02 m12 m22 m32 m52 : Option Value}
    {ocI2 kVI2 dcI2 pmI2 cdI2 ctI2 : Value} {odI2 anI2 : Option Addr} {slI2 : Array (Option Value)}
    {n13 q3 : Str} {N3 : Addr} {bs3 bm3 : List Value} {sn3 : List Str} {sub3 : List Value} {ab3 : Bool} {col3 : Option Bool} {dd3 : Option Addr} {m03 m13 m23 m33 m53 : Option Value}
    {ocI3 kVI3 dcI3 pmI3 cdI3 ctI3 : Value} {odI3 anI3 : Option Addr} {slI3 : Array (Option Value)}
    {n14 q4 : Str} {N4 : Addr} {bs4 bm4 : List Value} {sn4 : List Str} {sub4 : List Value} {ab4 : Bool} {col4 : Option Bool} {dd4 : Option Addr} {m04 m14 m24 m34 m54 : Option Value}
    {ocI4 kVI4 dcI4 pmI4 cdI4 ctI4 : Value} {odI4 anI4 : Option Addr} {slI4 : Array (Option Value)}
    {n15 q5 : Str} {N5 : Addr} {bs5 bm5 : List Value} {sn5 : List Str} {sub5 : List Value} {ab5 : Bool} {col5 : Option Bool} {dd5 : Option Addr} {m05 m15 m25 m35 m55 : Option Value}
    {ocI5 kVI5 dcI5 pmI5 cdI5 ctI5 : Value} {odI5 anI5 : Option Addr} {slI5 : Array (Option Value)}
    {n16 q6 : Str} {N6 : Addr} {bs6 bm6 : List Value} {sn6 : List Str} {sub6 : List Value} {ab6 : Bool} {col6 : Option Bool} {dd6 : Option Addr} {m06 m16 m26 m36 m56 : Option Value}
    {ocI6 kVI6 dcI6 pmI6 cdI6 ctI6 : Value} {odI6 anI6 : Option Addr} {slI6 : Array (Option Value)}
    {n17 q7 : Str} {N7 : Addr} {bs7 bm7 : List Value} {sn7 : List Str} {sub7 : List Value} {ab7 : Bool} {col7 : Option Bool} {dd7 : Option Addr} {m07 m17 m27 m37 m57 : Option Value}
    {ocI7 kVI7 dcI7 pmI7 cdI7 ctI7 : Value} {odI7 anI7 : Option Addr} {slI7 : Array (Option Value)}
    {ocP kVP dcP pmP cdP ctP : Value} {odP anP : Option Addr} {slP : Array (Option Value)}
    {ocT kVT dcT pmT cdT ctT : Value} {odT anT : Option Addr} {slT : Array (Option Value)}
    {ocV kVV dcV pmV cdV ctV : Value} {odV anV : Option Addr} {slV : Array (Option Value)}
    {ocL kVL dcL pmL cdL ctL : Value} {odL anL : Option Addr} {slL : Array (Option Value)}
    (aF : PySem.W.nsIn K mainGlobals "FoldError" = some (some (.ref Cf)))
    (hF : PySem.W.hasDictIn K Cf = true) (tF : PySem.W.typeIn K (.ref Cf) = some (.type "type"))
    (hn : PySem.W.specialIn K (.builtin "object.__class__") "__get__" = some (some (.builtin "getset_descriptor.__get__"))) (ht : PySem.W.takesIn K (.builtin "object.__class__") = some true)
    (aC0 : PySem.W.nsIn K mainGlobals "BadText" = some (some (.ref C0)))
    (xL0 : K.lookup C0 = some (excClassObj n10 q0 C0 N0 bs0 bm0 true sn0 sub0 ab0 col0 dd0 m00 m10 m20 m30 m50 "ValueError.__new__")) (bv0 : PySem.HandSPX.refsVE bm0 = true)
    (sa0 : PySem.W.findIn K (.ref C0) "__setattr__" = some (some (.builtin "object.__setattr__"))) (ga0 : PySem.W.findIn K (.ref C0) "__getattribute__" = some (some (.builtin "BaseException.__getattribute__"))) (gg0 : PySem.W.findIn K (.ref C0) "__getattr__" = some none)
    (a10 : PySem.W.findIn K (.ref C0) "__init__" = some (some (.ref f0))) (t10 : PySem.W.typeIn K (.ref f0) = some (.type "function")) (kC0 : PySem.W.keepIn K (.ref C0) = true) (eC0 : PySem.W.subIn K (.ref C0) (.type "BaseException") = some true)
    (tC0 : PySem.W.typeIn K (.ref C0) = some (.type "type")) (hC0 : PySem.W.hasDictIn K C0 = true) (cC0 : PySem.W.findIn K (.ref C0) "__class__" = some (some (.builtin "object.__class__"))) (mC0 : PySem.W.mroIn K C0 (.type "object") = some true)
    (lI0 : K.lookup f0 = some ⟨ocI0, odI0, .func (PySem.W.fnOf "__init__" "BadText.__init__" (defArgs (sI 2)) (defBody (sI 2)) (defScope (sI 2)) .none kVI0 dcI0 pmI0 anI0 cdI0 ctI0), slI0⟩) (cI0 : PySem.W.codeIn K cdI0 "BadText.__init__" = true) (kI0 : PySem.W.keepIn K (.ref f0) = true)
    (n0_row : PySem.W.findIn K (.ref C0) "row" = some none)
    (sF0 : PySem.W.subIn K (.ref C0) (.ref Cf) = some true) (sV0 : PySem.W.subIn K (.ref C0) (.type "ValueError") = some true)
    (aC1 : PySem.W.nsIn K mainGlobals "BadName" = some (some (.ref C1)))
    (xL1 : K.lookup C1 = some (excClassObj n11 q1 C1 N1 bs1 bm1 true sn1 sub1 ab1 col1 dd1 m01 m11 m21 m31 m51 "ValueError.__new__")) (bv1 : PySem.HandSPX.refsVE bm1 = true)
    (sa1 : PySem.W.findIn K (.ref C1) "__setattr__" = some (some (.builtin "object.__setattr__"))) (ga1 : PySem.W.findIn K (.ref C1) "__getattribute__" = some (some (.builtin "BaseException.__getattribute__"))) (gg1 : PySem.W.findIn K (.ref C1) "__getattr__" = some none)
    (a11 : PySem.W.findIn K (.ref C1) "__init__" = some (some (.ref f1))) (t11 : PySem.W.typeIn K (.ref f1) = some (.type "function")) (kC1 : PySem.W.keepIn K (.ref C1) = true) (eC1 : PySem.W.subIn K (.ref C1) (.type "BaseException") = some true)
    (tC1 : PySem.W.typeIn K (.ref C1) = some (.type "type")) (hC1 : PySem.W.hasDictIn K C1 = true) (cC1 : PySem.W.findIn K (.ref C1) "__class__" = some (some (.builtin "object.__class__"))) (mC1 : PySem.W.mroIn K C1 (.type "object") = some true)
    (lI1 : K.lookup f1 = some ⟨ocI1, odI1, .func (PySem.W.fnOf "__init__" "BadName.__init__" (defArgs (sI 3)) (defBody (sI 3)) (defScope (sI 3)) .none kVI1 dcI1 pmI1 anI1 cdI1 ctI1), slI1⟩) (cI1 : PySem.W.codeIn K cdI1 "BadName.__init__" = true) (kI1 : PySem.W.keepIn K (.ref f1) = true)
    (n1_value : PySem.W.findIn K (.ref C1) "value" = some none)
    (sF1 : PySem.W.subIn K (.ref C1) (.ref Cf) = some true) (sV1 : PySem.W.subIn K (.ref C1) (.type "ValueError") = some true)
    (aC2 : PySem.W.nsIn K mainGlobals "BadModule" = some (some (.ref C2)))
    (xL2 : K.lookup C2 = some (excClassObj n12 q2 C2 N2 bs2 bm2 true sn2 sub2 ab2 col2 dd2 m02 m12 m22 m32 m52 "ValueError.__new__")) (bv2 : PySem.HandSPX.refsVE bm2 = true)
    (sa2 : PySem.W.findIn K (.ref C2) "__setattr__" = some (some (.builtin "object.__setattr__"))) (ga2 : PySem.W.findIn K (.ref C2) "__getattribute__" = some (some (.builtin "BaseException.__getattribute__"))) (gg2 : PySem.W.findIn K (.ref C2) "__getattr__" = some none)
    (a12 : PySem.W.findIn K (.ref C2) "__init__" = some (some (.ref f2))) (t12 : PySem.W.typeIn K (.ref f2) = some (.type "function")) (kC2 : PySem.W.keepIn K (.ref C2) = true) (eC2 : PySem.W.subIn K (.ref C2) (.type "BaseException") = some true)
    (tC2 : PySem.W.typeIn K (.ref C2) = some (.type "type")) (hC2 : PySem.W.hasDictIn K C2 = true) (cC2 : PySem.W.findIn K (.ref C2) "__class__" = some (some (.builtin "object.__class__"))) (mC2 : PySem.W.mroIn K C2 (.type "object") = some true)
    (lI2 : K.lookup f2 = some ⟨ocI2, odI2, .func (PySem.W.fnOf "__init__" "BadModule.__init__" (defArgs (sI 4)) (defBody (sI 4)) (defScope (sI 4)) .none kVI2 dcI2 pmI2 anI2 cdI2 ctI2), slI2⟩) (cI2 : PySem.W.codeIn K cdI2 "BadModule.__init__" = true) (kI2 : PySem.W.keepIn K (.ref f2) = true)
    (n2_module : PySem.W.findIn K (.ref C2) "module" = some none)
    (n2_row : PySem.W.findIn K (.ref C2) "row" = some none)
    (sF2 : PySem.W.subIn K (.ref C2) (.ref Cf) = some true) (sV2 : PySem.W.subIn K (.ref C2) (.type "ValueError") = some true)
    (aC3 : PySem.W.nsIn K mainGlobals "BadValue" = some (some (.ref C3)))
    (xL3 : K.lookup C3 = some (excClassObj n13 q3 C3 N3 bs3 bm3 true sn3 sub3 ab3 col3 dd3 m03 m13 m23 m33 m53 "ValueError.__new__")) (bv3 : PySem.HandSPX.refsVE bm3 = true)
    (sa3 : PySem.W.findIn K (.ref C3) "__setattr__" = some (some (.builtin "object.__setattr__"))) (ga3 : PySem.W.findIn K (.ref C3) "__getattribute__" = some (some (.builtin "BaseException.__getattribute__"))) (gg3 : PySem.W.findIn K (.ref C3) "__getattr__" = some none)
    (a13 : PySem.W.findIn K (.ref C3) "__init__" = some (some (.ref f3))) (t13 : PySem.W.typeIn K (.ref f3) = some (.type "function")) (kC3 : PySem.W.keepIn K (.ref C3) = true) (eC3 : PySem.W.subIn K (.ref C3) (.type "BaseException") = some true)
    (tC3 : PySem.W.typeIn K (.ref C3) = some (.type "type")) (hC3 : PySem.W.hasDictIn K C3 = true) (cC3 : PySem.W.findIn K (.ref C3) "__class__" = some (some (.builtin "object.__class__"))) (mC3 : PySem.W.mroIn K C3 (.type "object") = some true)
    (lI3 : K.lookup f3 = some ⟨ocI3, odI3, .func (PySem.W.fnOf "__init__" "BadValue.__init__" (defArgs (sI 5)) (defBody (sI 5)) (defScope (sI 5)) .none kVI3 dcI3 pmI3 anI3 cdI3 ctI3), slI3⟩) (cI3 : PySem.W.codeIn K cdI3 "BadValue.__init__" = true) (kI3 : PySem.W.keepIn K (.ref f3) = true)
    (n3_value : PySem.W.findIn K (.ref C3) "value" = some none)
    (sF3 : PySem.W.subIn K (.ref C3) (.ref Cf) = some true) (sV3 : PySem.W.subIn K (.ref C3) (.type "ValueError") = some true)
    (aC4 : PySem.W.nsIn K mainGlobals "UnknownName" = some (some (.ref C4)))
    (xL4 : K.lookup C4 = some (excClassObj n14 q4 C4 N4 bs4 bm4 true sn4 sub4 ab4 col4 dd4 m04 m14 m24 m34 m54 "ValueError.__new__")) (bv4 : PySem.HandSPX.refsVE bm4 = true)
    (sa4 : PySem.W.findIn K (.ref C4) "__setattr__" = some (some (.builtin "object.__setattr__"))) (ga4 : PySem.W.findIn K (.ref C4) "__getattribute__" = some (some (.builtin "BaseException.__getattribute__"))) (gg4 : PySem.W.findIn K (.ref C4) "__getattr__" = some none)
    (a14 : PySem.W.findIn K (.ref C4) "__init__" = some (some (.ref f4))) (t14 : PySem.W.typeIn K (.ref f4) = some (.type "function")) (kC4 : PySem.W.keepIn K (.ref C4) = true) (eC4 : PySem.W.subIn K (.ref C4) (.type "BaseException") = some true)
    (tC4 : PySem.W.typeIn K (.ref C4) = some (.type "type")) (hC4 : PySem.W.hasDictIn K C4 = true) (cC4 : PySem.W.findIn K (.ref C4) "__class__" = some (some (.builtin "object.__class__"))) (mC4 : PySem.W.mroIn K C4 (.type "object") = some true)
    (lI4 : K.lookup f4 = some ⟨ocI4, odI4, .func (PySem.W.fnOf "__init__" "UnknownName.__init__" (defArgs (sI 6)) (defBody (sI 6)) (defScope (sI 6)) .none kVI4 dcI4 pmI4 anI4 cdI4 ctI4), slI4⟩) (cI4 : PySem.W.codeIn K cdI4 "UnknownName.__init__" = true) (kI4 : PySem.W.keepIn K (.ref f4) = true)
    (n4_value : PySem.W.findIn K (.ref C4) "value" = some none)
    (sF4 : PySem.W.subIn K (.ref C4) (.ref Cf) = some true) (sV4 : PySem.W.subIn K (.ref C4) (.type "ValueError") = some true)
    (aC5 : PySem.W.nsIn K mainGlobals "LimitExceeded" = some (some (.ref C5)))
    (xL5 : K.lookup C5 = some (excClassObj n15 q5 C5 N5 bs5 bm5 true sn5 sub5 ab5 col5 dd5 m05 m15 m25 m35 m55 "ValueError.__new__")) (bv5 : PySem.HandSPX.refsVE bm5 = true)
    (sa5 : PySem.W.findIn K (.ref C5) "__setattr__" = some (some (.builtin "object.__setattr__"))) (ga5 : PySem.W.findIn K (.ref C5) "__getattribute__" = some (some (.builtin "BaseException.__getattribute__"))) (gg5 : PySem.W.findIn K (.ref C5) "__getattr__" = some none)
    (a15 : PySem.W.findIn K (.ref C5) "__init__" = some (some (.ref f5))) (t15 : PySem.W.typeIn K (.ref f5) = some (.type "function")) (kC5 : PySem.W.keepIn K (.ref C5) = true) (eC5 : PySem.W.subIn K (.ref C5) (.type "BaseException") = some true)
    (tC5 : PySem.W.typeIn K (.ref C5) = some (.type "type")) (hC5 : PySem.W.hasDictIn K C5 = true) (cC5 : PySem.W.findIn K (.ref C5) "__class__" = some (some (.builtin "object.__class__"))) (mC5 : PySem.W.mroIn K C5 (.type "object") = some true)
    (lI5 : K.lookup f5 = some ⟨ocI5, odI5, .func (PySem.W.fnOf "__init__" "LimitExceeded.__init__" (defArgs (sI 7)) (defBody (sI 7)) (defScope (sI 7)) .none kVI5 dcI5 pmI5 anI5 cdI5 ctI5), slI5⟩) (cI5 : PySem.W.codeIn K cdI5 "LimitExceeded.__init__" = true) (kI5 : PySem.W.keepIn K (.ref f5) = true)
    (n5_limit : PySem.W.findIn K (.ref C5) "limit" = some none)
    (sF5 : PySem.W.subIn K (.ref C5) (.ref Cf) = some true) (sV5 : PySem.W.subIn K (.ref C5) (.type "ValueError") = some true)
    (aC6 : PySem.W.nsIn K mainGlobals "NotLegal" = some (some (.ref C6)))
    (xL6 : K.lookup C6 = some (excClassObj n16 q6 C6 N6 bs6 bm6 true sn6 sub6 ab6 col6 dd6 m06 m16 m26 m36 m56 "ValueError.__new__")) (bv6 : PySem.HandSPX.refsVE bm6 = true)
    (sa6 : PySem.W.findIn K (.ref C6) "__setattr__" = some (some (.builtin "object.__setattr__"))) (ga6 : PySem.W.findIn K (.ref C6) "__getattribute__" = some (some (.builtin "BaseException.__getattribute__"))) (gg6 : PySem.W.findIn K (.ref C6) "__getattr__" = some none)
    (a16 : PySem.W.findIn K (.ref C6) "__init__" = some (some (.ref f6))) (t16 : PySem.W.typeIn K (.ref f6) = some (.type "function")) (kC6 : PySem.W.keepIn K (.ref C6) = true) (eC6 : PySem.W.subIn K (.ref C6) (.type "BaseException") = some true)
    (tC6 : PySem.W.typeIn K (.ref C6) = some (.type "type")) (hC6 : PySem.W.hasDictIn K C6 = true) (cC6 : PySem.W.findIn K (.ref C6) "__class__" = some (some (.builtin "object.__class__"))) (mC6 : PySem.W.mroIn K C6 (.type "object") = some true)
    (lI6 : K.lookup f6 = some ⟨ocI6, odI6, .func (PySem.W.fnOf "__init__" "NotLegal.__init__" (defArgs (sI 8)) (defBody (sI 8)) (defScope (sI 8)) .none kVI6 dcI6 pmI6 anI6 cdI6 ctI6), slI6⟩) (cI6 : PySem.W.codeIn K cdI6 "NotLegal.__init__" = true) (kI6 : PySem.W.keepIn K (.ref f6) = true)
    (n6_one : PySem.W.findIn K (.ref C6) "one" = some none)
    (n6_other : PySem.W.findIn K (.ref C6) "other" = some none)
    (sF6 : PySem.W.subIn K (.ref C6) (.ref Cf) = some true) (sV6 : PySem.W.subIn K (.ref C6) (.type "ValueError") = some true)
    (aC7 : PySem.W.nsIn K mainGlobals "Noticed" = some (some (.ref C7)))
    (xL7 : K.lookup C7 = some (excClassObj n17 q7 C7 N7 bs7 bm7 true sn7 sub7 ab7 col7 dd7 m07 m17 m27 m37 m57 "ValueError.__new__")) (bv7 : PySem.HandSPX.refsVE bm7 = true)
    (sa7 : PySem.W.findIn K (.ref C7) "__setattr__" = some (some (.builtin "object.__setattr__"))) (ga7 : PySem.W.findIn K (.ref C7) "__getattribute__" = some (some (.builtin "BaseException.__getattribute__"))) (gg7 : PySem.W.findIn K (.ref C7) "__getattr__" = some none)
    (a17 : PySem.W.findIn K (.ref C7) "__init__" = some (some (.ref f7))) (t17 : PySem.W.typeIn K (.ref f7) = some (.type "function")) (kC7 : PySem.W.keepIn K (.ref C7) = true) (eC7 : PySem.W.subIn K (.ref C7) (.type "BaseException") = some true)
    (tC7 : PySem.W.typeIn K (.ref C7) = some (.type "type")) (hC7 : PySem.W.hasDictIn K C7 = true) (cC7 : PySem.W.findIn K (.ref C7) "__class__" = some (some (.builtin "object.__class__"))) (mC7 : PySem.W.mroIn K C7 (.type "object") = some true)
    (lI7 : K.lookup f7 = some ⟨ocI7, odI7, .func (PySem.W.fnOf "__init__" "Noticed.__init__" (defArgs (sI 9)) (defBody (sI 9)) (defScope (sI 9)) .none kVI7 dcI7 pmI7 anI7 cdI7 ctI7), slI7⟩) (cI7 : PySem.W.codeIn K cdI7 "Noticed.__init__" = true) (kI7 : PySem.W.keepIn K (.ref f7) = true)
    (n7_moment : PySem.W.findIn K (.ref C7) "moment" = some none)
    (sF7 : PySem.W.subIn K (.ref C7) (.ref Cf) = some true) (sV7 : PySem.W.subIn K (.ref C7) (.type "ValueError") = some true)
    (s0_0 : PySem.W.subIn K (.ref C0) (.ref C0) = some true)
    (s0_1 : PySem.W.subIn K (.ref C0) (.ref C1) = some false)
    (s0_2 : PySem.W.subIn K (.ref C0) (.ref C2) = some false)
    (s0_3 : PySem.W.subIn K (.ref C0) (.ref C3) = some false)
    (s0_4 : PySem.W.subIn K (.ref C0) (.ref C4) = some false)
    (s0_5 : PySem.W.subIn K (.ref C0) (.ref C5) = some false)
    (s0_6 : PySem.W.subIn K (.ref C0) (.ref C6) = some false)
    (s0_7 : PySem.W.subIn K (.ref C0) (.ref C7) = some false)
    (s1_0 : PySem.W.subIn K (.ref C1) (.ref C0) = some false)
    (s1_1 : PySem.W.subIn K (.ref C1) (.ref C1) = some true)
    (s1_2 : PySem.W.subIn K (.ref C1) (.ref C2) = some false)
    (s1_3 : PySem.W.subIn K (.ref C1) (.ref C3) = some false)
    (s1_4 : PySem.W.subIn K (.ref C1) (.ref C4) = some false)
    (s1_5 : PySem.W.subIn K (.ref C1) (.ref C5) = some false)
    (s1_6 : PySem.W.subIn K (.ref C1) (.ref C6) = some false)
    (s1_7 : PySem.W.subIn K (.ref C1) (.ref C7) = some false)
    (s2_0 : PySem.W.subIn K (.ref C2) (.ref C0) = some false)
    (s2_1 : PySem.W.subIn K (.ref C2) (.ref C1) = some false)
    (s2_2 : PySem.W.subIn K (.ref C2) (.ref C2) = some true)
    (s2_3 : PySem.W.subIn K (.ref C2) (.ref C3) = some false)
    (s2_4 : PySem.W.subIn K (.ref C2) (.ref C4) = some false)
    (s2_5 : PySem.W.subIn K (.ref C2) (.ref C5) = some false)
    (s2_6 : PySem.W.subIn K (.ref C2) (.ref C6) = some false)
    (s2_7 : PySem.W.subIn K (.ref C2) (.ref C7) = some false)
    (s3_0 : PySem.W.subIn K (.ref C3) (.ref C0) = some false)
    (s3_1 : PySem.W.subIn K (.ref C3) (.ref C1) = some false)
    (s3_2 : PySem.W.subIn K (.ref C3) (.ref C2) = some false)
    (s3_3 : PySem.W.subIn K (.ref C3) (.ref C3) = some true)
    (s3_4 : PySem.W.subIn K (.ref C3) (.ref C4) = some false)
    (s3_5 : PySem.W.subIn K (.ref C3) (.ref C5) = some false)
    (s3_6 : PySem.W.subIn K (.ref C3) (.ref C6) = some false)
    (s3_7 : PySem.W.subIn K (.ref C3) (.ref C7) = some false)
    (s4_0 : PySem.W.subIn K (.ref C4) (.ref C0) = some false)
    (s4_1 : PySem.W.subIn K (.ref C4) (.ref C1) = some false)
    (s4_2 : PySem.W.subIn K (.ref C4) (.ref C2) = some false)
    (s4_3 : PySem.W.subIn K (.ref C4) (.ref C3) = some false)
    (s4_4 : PySem.W.subIn K (.ref C4) (.ref C4) = some true)
    (s4_5 : PySem.W.subIn K (.ref C4) (.ref C5) = some false)
    (s4_6 : PySem.W.subIn K (.ref C4) (.ref C6) = some false)
    (s4_7 : PySem.W.subIn K (.ref C4) (.ref C7) = some false)
    (s5_0 : PySem.W.subIn K (.ref C5) (.ref C0) = some false)
    (s5_1 : PySem.W.subIn K (.ref C5) (.ref C1) = some false)
    (s5_2 : PySem.W.subIn K (.ref C5) (.ref C2) = some false)
    (s5_3 : PySem.W.subIn K (.ref C5) (.ref C3) = some false)
    (s5_4 : PySem.W.subIn K (.ref C5) (.ref C4) = some false)
    (s5_5 : PySem.W.subIn K (.ref C5) (.ref C5) = some true)
    (s5_6 : PySem.W.subIn K (.ref C5) (.ref C6) = some false)
    (s5_7 : PySem.W.subIn K (.ref C5) (.ref C7) = some false)
    (s6_0 : PySem.W.subIn K (.ref C6) (.ref C0) = some false)
    (s6_1 : PySem.W.subIn K (.ref C6) (.ref C1) = some false)
    (s6_2 : PySem.W.subIn K (.ref C6) (.ref C2) = some false)
    (s6_3 : PySem.W.subIn K (.ref C6) (.ref C3) = some false)
    (s6_4 : PySem.W.subIn K (.ref C6) (.ref C4) = some false)
    (s6_5 : PySem.W.subIn K (.ref C6) (.ref C5) = some false)
    (s6_6 : PySem.W.subIn K (.ref C6) (.ref C6) = some true)
    (s6_7 : PySem.W.subIn K (.ref C6) (.ref C7) = some false)
    (s7_0 : PySem.W.subIn K (.ref C7) (.ref C0) = some false)
    (s7_1 : PySem.W.subIn K (.ref C7) (.ref C1) = some false)
    (s7_2 : PySem.W.subIn K (.ref C7) (.ref C2) = some false)
    (s7_3 : PySem.W.subIn K (.ref C7) (.ref C3) = some false)
    (s7_4 : PySem.W.subIn K (.ref C7) (.ref C4) = some false)
    (s7_5 : PySem.W.subIn K (.ref C7) (.ref C5) = some false)
    (s7_6 : PySem.W.subIn K (.ref C7) (.ref C6) = some false)
    (s7_7 : PySem.W.subIn K (.ref C7) (.ref C7) = some true)
    (zlen : PySem.W.nsIn K mainGlobals "len" = some none)
    (zabs : PySem.W.nsIn K mainGlobals "abs" = some none)
    (zint : PySem.W.nsIn K mainGlobals "int" = some none)
    (zrange : PySem.W.nsIn K mainGlobals "range" = some none)
    (zmax : PySem.W.nsIn K mainGlobals "max" = some none)
    (zmin : PySem.W.nsIn K mainGlobals "min" = some none)
    (zrepr : PySem.W.nsIn K mainGlobals "repr" = some none)
    (zisinstance : PySem.W.nsIn K mainGlobals "isinstance" = some none)
    (zValueError : PySem.W.nsIn K mainGlobals "ValueError" = some none)
    (aP : PySem.W.nsIn K mainGlobals "_law_pool" = some (some (.ref fP)))
    (lP : K.lookup fP = some ⟨ocP, odP, .func (PySem.W.fnOf "_law_pool" "_law_pool" (defArgs sPool) (defBody sPool) (defScope sPool) .none kVP dcP pmP anP cdP ctP), slP⟩) (cP : PySem.W.codeIn K cdP "_law_pool" = true) (kP : PySem.W.keepIn K (.ref fP) = true)
    (aT : PySem.W.nsIn K mainGlobals "_law_take" = some (some (.ref fT)))
    (lT : K.lookup fT = some ⟨ocT, odT, .func (PySem.W.fnOf "_law_take" "_law_take" (defArgs sTake) (defBody sTake) (defScope sTake) .none kVT dcT pmT anT cdT ctT), slT⟩) (cT : PySem.W.codeIn K cdT "_law_take" = true) (kT : PySem.W.keepIn K (.ref fT) = true)
    (aV : PySem.W.nsIn K mainGlobals "_law_values" = some (some (.ref fV)))
    (lV : K.lookup fV = some ⟨ocV, odV, .func (PySem.W.fnOf "_law_values" "_law_values" (defArgs sVals) (defBody sVals) (defScope sVals) .none kVV dcV pmV anV cdV ctV), slV⟩) (cV : PySem.W.codeIn K cdV "_law_values" = true) (kV : PySem.W.keepIn K (.ref fV) = true)
    (aL : PySem.W.nsIn K mainGlobals "law" = some (some (.ref fL)))
    (lL : K.lookup fL = some ⟨ocL, odL, .func (PySem.W.fnOf "law" "law" (defArgs sLaw) (defBody sLaw) (defScope sLaw) .none kVL dcL pmL anL cdL ctL), slL⟩) (cL : PySem.W.codeIn K cdL "law" = true) (kL : PySem.W.keepIn K (.ref fL) = true)
    : ∃ fd : FuncData, (∀ (s : Shared) (v : Value), BindsTo s fd ⟨[v], []⟩ [("_law_script", v)]) ∧ ∀ base : Heap, K.In base → base.Ns mainGlobals mg → FnG l.prog w K mg base 3 fa fd ["_law_script"] (spLaw K) := by
  have e := hfa.symm.trans (PySem.W.mg_of X G aL)
  cases e
  have T : Txt K mg Cf C0 f0 C1 f1 C2 f2 C3 f3 C4 f4 C5 f5 C6 f6 C7 f7 := {
    gF := PySem.W.mg_of X G aF, hF := hF, tF := tF
    e0 := ec_mk X G aC0 xL0 bv0 sa0 ga0 gg0 a10 t10 kC0 eC0 tC0 hC0 cC0 mC0 hn ht
    n0_row := n0_row
    sF0 := sF0, sV0 := sV0
    s0_0 := s0_0, s0_1 := s0_1, s0_2 := s0_2, s0_3 := s0_3, s0_4 := s0_4, s0_5 := s0_5, s0_6 := s0_6, s0_7 := s0_7
    e1 := ec_mk X G aC1 xL1 bv1 sa1 ga1 gg1 a11 t11 kC1 eC1 tC1 hC1 cC1 mC1 hn ht
    n1_value := n1_value
    sF1 := sF1, sV1 := sV1
    s1_0 := s1_0, s1_1 := s1_1, s1_2 := s1_2, s1_3 := s1_3, s1_4 := s1_4, s1_5 := s1_5, s1_6 := s1_6, s1_7 := s1_7
    e2 := ec_mk X G aC2 xL2 bv2 sa2 ga2 gg2 a12 t12 kC2 eC2 tC2 hC2 cC2 mC2 hn ht
    n2_module := n2_module
    n2_row := n2_row
    sF2 := sF2, sV2 := sV2
    s2_0 := s2_0, s2_1 := s2_1, s2_2 := s2_2, s2_3 := s2_3, s2_4 := s2_4, s2_5 := s2_5, s2_6 := s2_6, s2_7 := s2_7
    e3 := ec_mk X G aC3 xL3 bv3 sa3 ga3 gg3 a13 t13 kC3 eC3 tC3 hC3 cC3 mC3 hn ht
    n3_value := n3_value
    sF3 := sF3, sV3 := sV3
    s3_0 := s3_0, s3_1 := s3_1, s3_2 := s3_2, s3_3 := s3_3, s3_4 := s3_4, s3_5 := s3_5, s3_6 := s3_6, s3_7 := s3_7
    e4 := ec_mk X G aC4 xL4 bv4 sa4 ga4 gg4 a14 t14 kC4 eC4 tC4 hC4 cC4 mC4 hn ht
    n4_value := n4_value
    sF4 := sF4, sV4 := sV4
    s4_0 := s4_0, s4_1 := s4_1, s4_2 := s4_2, s4_3 := s4_3, s4_4 := s4_4, s4_5 := s4_5, s4_6 := s4_6, s4_7 := s4_7
    e5 := ec_mk X G aC5 xL5 bv5 sa5 ga5 gg5 a15 t15 kC5 eC5 tC5 hC5 cC5 mC5 hn ht
    n5_limit := n5_limit
    sF5 := sF5, sV5 := sV5
    s5_0 := s5_0, s5_1 := s5_1, s5_2 := s5_2, s5_3 := s5_3, s5_4 := s5_4, s5_5 := s5_5, s5_6 := s5_6, s5_7 := s5_7
    e6 := ec_mk X G aC6 xL6 bv6 sa6 ga6 gg6 a16 t16 kC6 eC6 tC6 hC6 cC6 mC6 hn ht
    n6_one := n6_one
    n6_other := n6_other
    sF6 := sF6, sV6 := sV6
    s6_0 := s6_0, s6_1 := s6_1, s6_2 := s6_2, s6_3 := s6_3, s6_4 := s6_4, s6_5 := s6_5, s6_6 := s6_6, s6_7 := s6_7
    e7 := ec_mk X G aC7 xL7 bv7 sa7 ga7 gg7 a17 t17 kC7 eC7 tC7 hC7 cC7 mC7 hn ht
    n7_moment := n7_moment
    sF7 := sF7, sV7 := sV7
    s7_0 := s7_0, s7_1 := s7_1, s7_2 := s7_2, s7_3 := s7_3, s7_4 := s7_4, s7_5 := s7_5, s7_6 := s7_6, s7_7 := s7_7
    zlen := PySem.W.mg_none_of X G zlen, zabs := PySem.W.mg_none_of X G zabs, zint := PySem.W.mg_none_of X G zint, zrange := PySem.W.mg_none_of X G zrange, zmax := PySem.W.mg_none_of X G zmax, zmin := PySem.W.mg_none_of X G zmin, zrepr := PySem.W.mg_none_of X G zrepr, zisinstance := PySem.W.mg_none_of X G zisinstance, zValueError := PySem.W.mg_none_of X G zValueError }
  have FP := fun_mk (st := sPool) lP cP kP
  have FT := fun_mk (st := sTake) lT cT kT
  have FV := fun_mk (st := sVals) lV cV kV
  have bP := FP.binds (ps := ["_law_script", "_law_k"]) fun _ _ _ _ _ _ us hl => match us, hl with | [_, _], _ => rfl
  have bT := FT.binds (ps := ["_law_pool_here", "_law_many"]) fun _ _ _ _ _ _ us hl => match us, hl with | [_, _], _ => rfl
  have bV := FV.binds (ps := ["_law_pool_here"]) fun _ _ _ _ _ _ us hl => match us, hl with | [_], _ => rfl
  have F0 := fun_mk (st := sI 2) lI0 cI0 kI0
  have b0 := F0.binds (ps := ["self", "row"]) fun _ _ _ _ _ _ us hl => match us, hl with | [_, _], _ => rfl
  have F1 := fun_mk (st := sI 3) lI1 cI1 kI1
  have b1 := F1.binds (ps := ["self", "value"]) fun _ _ _ _ _ _ us hl => match us, hl with | [_, _], _ => rfl
  have F2 := fun_mk (st := sI 4) lI2 cI2 kI2
  have b2 := F2.binds (ps := ["self", "module", "row"]) fun _ _ _ _ _ _ us hl => match us, hl with | [_, _, _], _ => rfl
  have F3 := fun_mk (st := sI 5) lI3 cI3 kI3
  have b3 := F3.binds (ps := ["self", "value"]) fun _ _ _ _ _ _ us hl => match us, hl with | [_, _], _ => rfl
  have F4 := fun_mk (st := sI 6) lI4 cI4 kI4
  have b4 := F4.binds (ps := ["self", "value"]) fun _ _ _ _ _ _ us hl => match us, hl with | [_, _], _ => rfl
  have F5 := fun_mk (st := sI 7) lI5 cI5 kI5
  have b5 := F5.binds (ps := ["self", "limit"]) fun _ _ _ _ _ _ us hl => match us, hl with | [_, _], _ => rfl
  have F6 := fun_mk (st := sI 8) lI6 cI6 kI6
  have b6 := F6.binds (ps := ["self", "one", "other"]) fun _ _ _ _ _ _ us hl => match us, hl with | [_, _, _], _ => rfl
  have F7 := fun_mk (st := sI 9) lI7 cI7 kI7
  have b7 := F7.binds (ps := ["self", "moment"]) fun _ _ _ _ _ _ us hl => match us, hl with | [_, _], _ => rfl
  exact ⟨PySem.W.fnOf "law" "law" (defArgs sLaw) (defBody sLaw) (defScope sLaw) .none kVL dcL pmL anL cdL ctL, fun s v => .of_eq rfl, fun base _ _ =>
    ok_law (fun_mk (st := sLaw) lL cL kL) T FP bP (PySem.W.mg_of X G aP) FT bT (PySem.W.mg_of X G aT) FV bV (PySem.W.mg_of X G aV) F0 b0 F1 b1 F2 b2 F3 b3 F4 b4 F5 b5 F6 b6 F7 b7⟩
end K12
open PySem PySem.W PyProof.Rows in
set_option maxRecDepth 100000 in
set_option maxHeartbeats 0 in
theorem PySem.Challenge.cw_foldsame_k12_errors_holds : PySem.Challenge.rw_foldsame_k12_errors.Holds := by
  w_on; o_law; k_head; (case hw => w_witness2)
  k_fill
  refine FS.walk_G (l := PySem.Challenge.rw_foldsame_k12_errors) (n := 63) (k := 3) (x := "_law_script") (sp := fun w => K12.spLaw _) rfl (by decide) rfl ⟨rfl, by decide, by decide⟩ (fun w h Y => PySem.W.kIn_of Y) ?F (fun _ _ a ns hl _ hS => ⟨a, ns, rfl, hS, hl, fun _ => rfl⟩)
  case F =>
    intro w mg fa h KX G hmg
    refine' K12.all_mk KX G hmg ?aF ?hF ?tF ?hn ?ht ?aC0 ?xL0 ?bv0 ?sa0 ?ga0 ?gg0 ?a10 ?t10 ?kC0 ?eC0 ?tC0 ?hC0 ?cC0 ?mC0 ?lI0 ?cI0 ?kI0 ?n0_row ?sF0 ?sV0 ?aC1 ?xL1 ?bv1 ?sa1 ?ga1 ?gg1 ?a11 ?t11 ?kC1 ?eC1 ?tC1 ?hC1 ?cC1 ?mC1 ?lI1 ?cI1 ?kI1 ?n1_value ?sF1 ?sV1 ?aC2 ?xL2 ?bv2 ?sa2 ?ga2 ?gg2 ?a12 ?t12 ?kC2 ?eC2 ?tC2 ?hC2 ?cC2 ?mC2 ?lI2 ?cI2 ?kI2 ?n2_module ?n2_row ?sF2 ?sV2 ?aC3 ?xL3 ?bv3 ?sa3 ?ga3 ?gg3 ?a13 ?t13 ?kC3 ?eC3 ?tC3 ?hC3 ?cC3 ?mC3 ?lI3 ?cI3 ?kI3 ?n3_value ?sF3 ?sV3 ?aC4 ?xL4 ?bv4 ?sa4 ?ga4 ?gg4 ?a14 ?t14 ?kC4 ?eC4 ?tC4 ?hC4 ?cC4 ?mC4 ?lI4 ?cI4 ?kI4 ?n4_value ?sF4 ?sV4 ?aC5 ?xL5 ?bv5 ?sa5 ?ga5 ?gg5 ?a15 ?t15 ?kC5 ?eC5 ?tC5 ?hC5 ?cC5 ?mC5 ?lI5 ?cI5 ?kI5 ?n5_limit ?sF5 ?sV5 ?aC6 ?xL6 ?bv6 ?sa6 ?ga6 ?gg6 ?a16 ?t16 ?kC6 ?eC6 ?tC6 ?hC6 ?cC6 ?mC6 ?lI6 ?cI6 ?kI6 ?n6_one ?n6_other ?sF6 ?sV6 ?aC7 ?xL7 ?bv7 ?sa7 ?ga7 ?gg7 ?a17 ?t17 ?kC7 ?eC7 ?tC7 ?hC7 ?cC7 ?mC7 ?lI7 ?cI7 ?kI7 ?n7_moment ?sF7 ?sV7 ?s0_0 ?s0_1 ?s0_2 ?s0_3 ?s0_4 ?s0_5 ?s0_6 ?s0_7 ?s1_0 ?s1_1 ?s1_2 ?s1_3 ?s1_4 ?s1_5 ?s1_6 ?s1_7 ?s2_0 ?s2_1 ?s2_2 ?s2_3 ?s2_4 ?s2_5 ?s2_6 ?s2_7 ?s3_0 ?s3_1 ?s3_2 ?s3_3 ?s3_4 ?s3_5 ?s3_6 ?s3_7 ?s4_0 ?s4_1 ?s4_2 ?s4_3 ?s4_4 ?s4_5 ?s4_6 ?s4_7 ?s5_0 ?s5_1 ?s5_2 ?s5_3 ?s5_4 ?s5_5 ?s5_6 ?s5_7 ?s6_0 ?s6_1 ?s6_2 ?s6_3 ?s6_4 ?s6_5 ?s6_6 ?s6_7 ?s7_0 ?s7_1 ?s7_2 ?s7_3 ?s7_4 ?s7_5 ?s7_6 ?s7_7 ?zlen ?zabs ?zint ?zrange ?zmax ?zmin ?zrepr ?zisinstance ?zValueError ?aP ?lP ?cP ?kP ?aT ?lT ?cT ?kT ?aV ?lV ?cV ?kV ?aL ?lL ?cL ?kL
    (case aF => k_is)
    (case hF => k_is)
    (case tF => k_is)
    (case hn => k_is)
    (case ht => k_is)
    (case aC0 => k_is)
    (case xL0 => k_is)
    (case bv0 => rfl)
    (case sa0 => k_is)
    (case ga0 => k_is)
    (case gg0 => k_is)
    (case a10 => k_is)
    (case t10 => k_is)
    (case kC0 => k_is)
    (case eC0 => k_is)
    (case tC0 => k_is)
    (case hC0 => k_is)
    (case cC0 => k_is)
    (case mC0 => k_is)
    (case lI0 => k_is)
    (case cI0 => k_is)
    (case kI0 => k_is)
    (case n0_row => k_is)
    (case sF0 => k_is)
    (case sV0 => k_is)
    (case aC1 => k_is)
    (case xL1 => k_is)
    (case bv1 => rfl)
    (case sa1 => k_is)
    (case ga1 => k_is)
    (case gg1 => k_is)
    (case a11 => k_is)
    (case t11 => k_is)
    (case kC1 => k_is)
    (case eC1 => k_is)
    (case tC1 => k_is)
    (case hC1 => k_is)
    (case cC1 => k_is)
    (case mC1 => k_is)
    (case lI1 => k_is)
    (case cI1 => k_is)
    (case kI1 => k_is)
    (case n1_value => k_is)
    (case sF1 => k_is)
    (case sV1 => k_is)
    (case aC2 => k_is)
    (case xL2 => k_is)
    (case bv2 => rfl)
    (case sa2 => k_is)
    (case ga2 => k_is)
    (case gg2 => k_is)
    (case a12 => k_is)
    (case t12 => k_is)
    (case kC2 => k_is)
    (case eC2 => k_is)
    (case tC2 => k_is)
    (case hC2 => k_is)
    (case cC2 => k_is)
    (case mC2 => k_is)
    (case lI2 => k_is)
    (case cI2 => k_is)
    (case kI2 => k_is)
    (case n2_module => k_is)
    (case n2_row => k_is)
    (case sF2 => k_is)
    (case sV2 => k_is)
    (case aC3 => k_is)
    (case xL3 => k_is)
    (case bv3 => rfl)
    (case sa3 => k_is)
    (case ga3 => k_is)
    (case gg3 => k_is)
    (case a13 => k_is)
    (case t13 => k_is)
    (case kC3 => k_is)
    (case eC3 => k_is)
    (case tC3 => k_is)
    (case hC3 => k_is)
    (case cC3 => k_is)
    (case mC3 => k_is)
    (case lI3 => k_is)
    (case cI3 => k_is)
    (case kI3 => k_is)
    (case n3_value => k_is)
    (case sF3 => k_is)
    (case sV3 => k_is)
    (case aC4 => k_is)
    (case xL4 => k_is)
    (case bv4 => rfl)
    (case sa4 => k_is)
    (case ga4 => k_is)
    (case gg4 => k_is)
    (case a14 => k_is)
    (case t14 => k_is)
    (case kC4 => k_is)
    (case eC4 => k_is)
    (case tC4 => k_is)
    (case hC4 => k_is)
    (case cC4 => k_is)
    (case mC4 => k_is)
    (case lI4 => k_is)
    (case cI4 => k_is)
    (case kI4 => k_is)
    (case n4_value => k_is)
    (case sF4 => k_is)
    (case sV4 => k_is)
    (case aC5 => k_is)
    (case xL5 => k_is)
    (case bv5 => rfl)
    (case sa5 => k_is)
    (case ga5 => k_is)
    (case gg5 => k_is)
    (case a15 => k_is)
    (case t15 => k_is)
    (case kC5 => k_is)
    (case eC5 => k_is)
    (case tC5 => k_is)
    (case hC5 => k_is)
    (case cC5 => k_is)
    (case mC5 => k_is)
    (case lI5 => k_is)
    (case cI5 => k_is)
    (case kI5 => k_is)
    (case n5_limit => k_is)
    (case sF5 => k_is)
    (case sV5 => k_is)
    (case aC6 => k_is)
    (case xL6 => k_is)
    (case bv6 => rfl)
    (case sa6 => k_is)
    (case ga6 => k_is)
    (case gg6 => k_is)
    (case a16 => k_is)
    (case t16 => k_is)
    (case kC6 => k_is)
    (case eC6 => k_is)
    (case tC6 => k_is)
    (case hC6 => k_is)
    (case cC6 => k_is)
    (case mC6 => k_is)
    (case lI6 => k_is)
    (case cI6 => k_is)
    (case kI6 => k_is)
    (case n6_one => k_is)
    (case n6_other => k_is)
    (case sF6 => k_is)
    (case sV6 => k_is)
    (case aC7 => k_is)
    (case xL7 => k_is)
    (case bv7 => rfl)
    (case sa7 => k_is)
    (case ga7 => k_is)
    (case gg7 => k_is)
    (case a17 => k_is)
    (case t17 => k_is)
    (case kC7 => k_is)
    (case eC7 => k_is)
    (case tC7 => k_is)
    (case hC7 => k_is)
    (case cC7 => k_is)
    (case mC7 => k_is)
    (case lI7 => k_is)
    (case cI7 => k_is)
    (case kI7 => k_is)
    (case n7_moment => k_is)
    (case sF7 => k_is)
    (case sV7 => k_is)
    (case s0_0 => first | rfl | k_is)
    (case s0_1 => k_is)
    (case s0_2 => k_is)
    (case s0_3 => k_is)
    (case s0_4 => k_is)
    (case s0_5 => k_is)
    (case s0_6 => k_is)
    (case s0_7 => k_is)
    (case s1_0 => k_is)
    (case s1_1 => first | rfl | k_is)
    (case s1_2 => k_is)
    (case s1_3 => k_is)
    (case s1_4 => k_is)
    (case s1_5 => k_is)
    (case s1_6 => k_is)
    (case s1_7 => k_is)
    (case s2_0 => k_is)
    (case s2_1 => k_is)
    (case s2_2 => first | rfl | k_is)
    (case s2_3 => k_is)
    (case s2_4 => k_is)
    (case s2_5 => k_is)
    (case s2_6 => k_is)
    (case s2_7 => k_is)
    (case s3_0 => k_is)
    (case s3_1 => k_is)
    (case s3_2 => k_is)
    (case s3_3 => first | rfl | k_is)
    (case s3_4 => k_is)
    (case s3_5 => k_is)
    (case s3_6 => k_is)
    (case s3_7 => k_is)
    (case s4_0 => k_is)
    (case s4_1 => k_is)
    (case s4_2 => k_is)
    (case s4_3 => k_is)
    (case s4_4 => first | rfl | k_is)
    (case s4_5 => k_is)
    (case s4_6 => k_is)
    (case s4_7 => k_is)
    (case s5_0 => k_is)
    (case s5_1 => k_is)
    (case s5_2 => k_is)
    (case s5_3 => k_is)
    (case s5_4 => k_is)
    (case s5_5 => first | rfl | k_is)
    (case s5_6 => k_is)
    (case s5_7 => k_is)
    (case s6_0 => k_is)
    (case s6_1 => k_is)
    (case s6_2 => k_is)
    (case s6_3 => k_is)
    (case s6_4 => k_is)
    (case s6_5 => k_is)
    (case s6_6 => first | rfl | k_is)
    (case s6_7 => k_is)
    (case s7_0 => k_is)
    (case s7_1 => k_is)
    (case s7_2 => k_is)
    (case s7_3 => k_is)
    (case s7_4 => k_is)
    (case s7_5 => k_is)
    (case s7_6 => k_is)
    (case s7_7 => first | rfl | k_is)
    (case zlen => k_is)
    (case zabs => k_is)
    (case zint => k_is)
    (case zrange => k_is)
    (case zmax => k_is)
    (case zmin => k_is)
    (case zrepr => k_is)
    (case zisinstance => k_is)
    (case zValueError => k_is)
    (case aP => k_is)
    (case lP => k_is)
    (case cP => k_is)
    (case kP => k_is)
    (case aT => k_is)
    (case lT => k_is)
    (case cT => k_is)
    (case kT => k_is)
    (case aV => k_is)
    (case lV => k_is)
    (case cV => k_is)
    (case kV => k_is)
    (case aL => k_is)
    (case lL => k_is)
    (case cL => k_is)
    (case kL => k_is)
