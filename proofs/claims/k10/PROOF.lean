import PyProof.Rows.All
import Wide.All
import OpenK.AllK
import Wide.FinOn
import HandS.ForMost
import HandS.Exc
import HandS.ExcInit
import HandS.ExcIs
import HandS.ExcField
import PyProof.ReprReads
import HandS.NoneIn
import HandS.Flow
import HandS.IsInst
import HandS.Walk
import HandS.More
import HandS.Text
import KE.GoesEnum
import HandS.Star
import HandS.Conv
import KE.KDictSum
import HandS.WordsExc
import HandS.DictComp
import PyProof.TupleOfSeq
import PyProof.Rows.SortStr
import HandS.SetFor
import HandS.IterVal
import KE.KOwnIter
import HandS.Rev
import HandS.GenList
import HandS.ExcValue
import PyProof.ListNew
import HandS.TupAny
import OpenK.KMeth
import OpenK.KOps
import HandS.OwnEq
import PyProof.InstNe
import KE.KFmtOwn
import PyProof.Rows.Range3
import PyProof.CallStr
import HandS.FStr
import HandS.RaiseMore
import HandS.TupLe
import HandS.SetKeys
import PySem.Challenge.RW_foldsame_k10_module_texts
set_option Elab.async false
set_option linter.all false
set_option maxRecDepth 100000
set_option maxHeartbeats 4000000
/-! Own rules: exceptions of own classes as values (made, read, asked by isinstance), repr of lists of plain values. -/
namespace PySem.W
open PySem PySem.Spec PySem.Calls PyProof.Rows
section
variable {prog : Program} {w : World} {A : Around} {E : Value → Shared → Prop} {s : Shared} {K : Frag} {x D : Addr} {ox : Obj} {od : Option Obj}
theorem fs_findClass (hdct : hasDictIn K D = true) (ha : findIn K (.ref D) "__class__" = some (some (.builtin "object.__class__"))) (hn : specialIn K (.builtin "object.__class__") "__get__" = some (some (.builtin "getset_descriptor.__get__")))
    (htk : takesIn K (.builtin "object.__class__") = some true) : findObj K D od "__class__" = some (.bind (.builtin "getset_descriptor.__get__") (.builtin "object.__class__")) := by
  obtain ⟨cd, hcd, _⟩ := any_some hdct
  unfold findObj; rw [hcd, Option.bind_some, ha, Option.bind_some]; simp [hn, htk]
theorem fs_class {Q : Option Value → Shared → Prop} (hga : findIn K (.ref D) "__getattribute__" = some (some (.builtin "BaseException.__getattribute__"))) (hgt : findIn K (.ref D) "__getattr__" = some none) (hsub : subIn K (.ref D) (.type "BaseException") = some true)
    (hdct : hasDictIn K D = true) (ha : findIn K (.ref D) "__class__" = some (some (.builtin "object.__class__")))
    (hn : specialIn K (.builtin "object.__class__") "__get__" = some (some (.builtin "getset_descriptor.__get__"))) (htk : takesIn K (.builtin "object.__class__") = some true) (hm : mroIn K D (.type "object") = some true)
    (KX : K.In s.heap) (J : InstAt s.heap x ox D od) (hq : Q (some (.ref D)) { s with toks := s.toks + 1 }) : wpAny (model prog w) A (getAttr? (.ref x) "__class__") Q E s := by
  have hfind : findObj K D od "__class__" = some (.bind (.builtin "getset_descriptor.__get__") (.builtin "object.__class__")) := fs_findClass hdct ha hn htk
  obtain ⟨hp, gg, dd, tt, oo⟩ := s
  have M0 := J.type (M := model prog w); have M1 := looks_findIn (M := model prog w) KX hga
  have M2 := looks_findIn (M := model prog w) KX hgt; have M3 := looks_find (M := model prog w) KX J hfind
  have hisB : Looks (model prog w) hp (isInstance (.ref x) (.type "BaseException")) true := M0.andThen (looks_subIn KX hsub)
  have e0 : (false && onTheHeap (Value.builtin "BaseException.__getattribute__")) = false := rfl
  have e2 : (Value.builtin "BaseException.__getattribute__" == Value.builtin "object.__getattribute__") = false := by decide +kernel
  have e1 : (onTheHeap (Value.ref D) && Value.builtin "BaseException.__getattribute__" == Value.builtin "object.__getattribute__") = false := by rw [e2] <;> rfl
  unfold getAttr? getAttrBy? getAttrBy
  refine wpAny_bind (wpAny_mkText (wpAny_bind (wpAny_attempt (wpAny_holding (wpAny_bind (M0.at (wpAny_bind (M1.at ?_))))))))
  show wpAny _ _ (if (onTheHeap (Value.ref D) && Value.builtin "BaseException.__getattribute__" == Value.builtin "object.__getattribute__") = true then _ else _) _ _ _
  rw [e1, if_neg Bool.false_ne_true]; unfold getAttrByItsOwn hookBefore
  refine wpAny_bind ?_
  rw [if_pos (show onTheHeap (Value.ref D) = true from rfl)]; refine M2.at ?_
  refine wpAny_bind (wpAny_attempt (wpAny_holding ?_)); unfold callGetattribute
  rw [e0, if_neg Bool.false_ne_true]; unfold boundAndCalled
  rw [PySem.F.excAttr_ValueError.ga.bind (.ref x)]; refine wpAny_bind (wpAny_pure ?_)
  show wpAny _ _ (call (.builtin "BaseException.__getattribute__") [.ref x, .str "__class__" tt]) _ _ _
  refine wpAny_call (codeAny_call_builtin PySem.F.excAttr_ValueError.ga.plain PySem.F.entry_bexc_ga ?_)
  refine @check_slot (model prog w) _ _ ⟨hp, gg, dd, tt + 1, oo⟩ "BaseException.__getattribute__" "BaseException" "__getattribute__" (.ref x) [.str "__class__" tt] [] _ (by decide +kernel) (by decide +kernel) hisB (PySem.F.args_bexc_ga (.ref x) (.str "__class__" tt)) ?_
  unfold Builtin.«object.__getattribute__»
  refine wpAny_bind (wpAny_of_eq (a := ((Value.ref x : Value), [Value.str "__class__" tt])) (by first | rfl | (simp only [slotArgs]; rfl)) ?_)
  refine wpAny_bind (wpAny_pure (wpAny_bind (M0.at (wpAny_bind (M3.at ?_)))))
  show wpAny _ _ (holding [Value.builtin "object.__class__"] (call (.builtin "getset_descriptor.__get__") [.builtin "object.__class__", .ref x, .ref D]) >>= ret) _ _ _
  refine wpAny_bind (wpAny_holding (wpAny_call (class_get (s := ⟨hp, gg, dd, tt + 1, oo⟩) (ox := ox) (od := od) KX J hm ?_))); refine wpAny_pure ?_
  show wpAny _ _ (handedOut (.ref D)) _ _ _
  rw [handedOut_of (v := .ref D) rfl]
  first | exact wpAny_pure (wpAny_pure hq) | exact wpAny_pure hq | exact wpAny_pure (wpAny_bind (wpAny_pure (wpAny_pure hq)))
theorem fs_kitx (hga : findIn K (.ref D) "__getattribute__" = some (some (.builtin "BaseException.__getattribute__"))) (hgt : findIn K (.ref D) "__getattr__" = some none) (hsub : subIn K (.ref D) (.type "BaseException") = some true) (hdct : hasDictIn K D = true) (ha : findIn K (.ref D) "__class__" = some (some (.builtin "object.__class__")))
    (hn : specialIn K (.builtin "object.__class__") "__get__" = some (some (.builtin "getset_descriptor.__get__"))) (htk : takesIn K (.builtin "object.__class__") = some true) (hm : mroIn K D (.type "object") = some true) :
    KitX K (.ref x) (.ref D) (fun h => ∃ ox od, InstAt h x ox D od) where
  ty := fun _ _ _ ⟨_, _, J⟩ => J.type
  it := fun _ _ KX _ => by
    obtain ⟨cc, hcc, _⟩ := any_some hdct
    unfold clsIn at hcc
    split at hcc
    · rename_i hlook
      intro A1 Q1 E1 s1 kk qq; unfold isType loadHead
      exact wpAny_bind (wpAny_loadPart (kk _ _ (KX _ _ hlook)) (wpAny_pure qq))
    · cases hcc
  ne := fun hh tp dd its nn sl KX htp => by
    obtain ⟨cc, hcc, _⟩ := any_some hdct
    refine Bool.eq_false_iff.mpr fun qq => ?_
    have eD : D = tp := Value.ref.inj (beq_iff_eq.mp qq)
    subst eD; unfold clsIn at hcc
    split at hcc
    · rename_i hlook
      have zz := (KX _ _ hlook).symm.trans htp; cases zz
    · cases hcc
  ca := fun KX ⟨_, _, J⟩ kk => fs_class hga hgt hsub hdct ha hn htk hm KX J kk
end
end PySem.W
namespace FS
open PySem PySem.Spec PyProof.Rows L2
/-! ### made -/
/-- C(e, ..) as a value, C's own __init__ keeping sp -/
def tMkV (C : Addr) (sp : Sp) (dvs : List V) (ta : TA) : TE := fun σ H Q => ta σ H fun vs H1 => vs.length ≤ 1000 ∧ ∀ a, H1 a = none →
  sp (.ref a :: (vs ++ dvs)) (upd H1 a (exo a C none)) (fun v H2 => v = .non ∧ Q (.ref a) H2) (fun _ _ _ => False)
section
variable {X : Cx} {e : Expr} {es : List Expr} {te : TE} {ta : TA} {p pos : Pos}
theorem pe_mkV {CX : CXT} {x : Str} {C fI : Addr} {k : Nat} {fd : FuncData} {ps : List Str} {sp : Sp} {ds : List Value} {dvs : List V} (T : OexC X.K C) (iC : PySem.W.findIn X.K (.ref C) "__init__" = some (some (.ref fI))) (tI : PySem.W.typeIn X.K (.ref fI) = some (.type "function"))
    (F1 : FnOk X.prog X.w X.K X.mg X.base CX k fI fd ps sp) (hr : Room (k + 1) X.A) (hb : Binds X.K fd ps ds) (hd : Vals dvs ds) (hx : Passes CX X (fun _ _ _ => False)) (hg : Gl X x) (hm : X.mg x = some (.ref C)) (ha : PA X (e :: es) ta)
    (hdb : (x == ("__debug__" : Str)) = false := by decide) (he : starEach (e :: es) X.env = (false, eval e X.env) :: starEach es X.env := by rfl) (hpl : (backTo pos (starEach es X.env)).any (·.1) = false := by rfl) :
    PE X (.Call (.Name x p) (e :: es) [] pos) (tMkV C sp dvs ta) := by
  refine ⟨fun pins st0 σ H Q I h => ?_⟩
  obtain ⟨nm, q, N, bs, bm, sn, sub, ab, col, dd, k0, k1, k2, k3, k5, hC, hbm⟩ := T.cls
  refine wpAny_Call_Name_kw (ld_glob I hg hm ?_ hdb)
  refine PySem.W.callWith_K (h₀ := X.base) I.ok.mod.kin T.kC (thn (ha.run pos pins st0 σ H _ I h) fun us s1 ⟨vs, H1, I1, r1, hz, q1⟩ => ⟨I1.kIn, ?_⟩) he hpl
  show wpAny _ _ (call (.ref C) us) _ _ _
  obtain ⟨hp, g, dr, tk, os⟩ := s1
  have hsz1 : hp.objs.size ≤ hp.objs.size + 1 := Nat.le_succ _
  have hn1 : H1 (hp.objs.size + 1) = none := I1.hok.fresh hsz1
  have hq1 := q1 (hp.objs.size + 1) hn1
  have kk1 : ∀ b o, hp.get? b = some o → ((hp.push (PySem.W.kdv_tup us)).push (PySem.HandSPX.excO C hp.objs.size)).get? b = some o := fun b o eo => Heap.get?_push_of_some _ (Heap.get?_push_of_some _ eo)
  have hget1 : ((hp.push (PySem.W.kdv_tup us)).push (PySem.HandSPX.excO C hp.objs.size)).get? (hp.objs.size + 1) = some (PySem.HandSPX.excO C hp.objs.size) := by heap_get
  have J2 : Inv X pins σ (upd H1 (hp.objs.size + 1) (exo (hp.objs.size + 1) C none)) ⟨(hp.push (PySem.W.kdv_tup us)).push (PySem.HandSPX.excO C hp.objs.size), g, dr, tk, os⟩ :=
    I1.laid (t' := tk) (a := hp.objs.size + 1) (o := exo (hp.objs.size + 1) C none) (h' := (hp.push (PySem.W.kdv_tup us)).push (PySem.HandSPX.excO C hp.objs.size)) kk1 hsz1 (exo_ok hget1)
  have rr2 : Vals (V.ref (hp.objs.size + 1) :: (vs ++ dvs)) (Value.ref (hp.objs.size + 1) :: (us ++ ds)) := .cons rfl (r1.append hd)
  have hl1 : (Value.ref (hp.objs.size + 1) :: us ++ ds).length = ps.length := by
    have e9 := rr2.length
    rw [F1.len _ _ _ _ hq1] at e9; exact e9.symm
  have hus1 : us.length ≤ sizeLine := by
    rw [← Paired.length r1, sizeLine_eq]; omega
  refine wpAny_call (PySem.HandSPX.call_own F.excBase_ValueError (fun Y => PySem.HandSPX.refsVE_contains Y bm hbm) (I1.kIn _ _ hC) (PySem.W.looks_findIn I1.kIn iC) (fun self => PySem.W.bind_fn I1.kIn self tI) hus1
    (codeAny_mono (F1.run _ X.stack _ _ ⟨Value.ref (hp.objs.size + 1) :: us, []⟩ (Value.ref (hp.objs.size + 1) :: (us ++ ds)) _ _ (fun _ _ _ => False) (hr.make C us []) (J2.env0.make C us []) (hb _ (Value.ref (hp.objs.size + 1) :: us) J2.kIn hl1) rr2 hq1) fun r s' hq' => ?_))
  cases r with
  | error er => exact hx pins σ _ _ er s' J2 hq'
  | ok fl =>
    cases fl with
    | ret u =>
      obtain ⟨v, H2, os2, bare2, un2, hok2, rv, ev, q2⟩ := hq'
      subst ev
      exact ⟨rv, .ref (hp.objs.size + 1), H2, J2.call' (ch := []) os2 un2 hok2 bare2 (fun b z => absurd z (by simp)), rfl, q2⟩
    | next => exact False.elim hq'
    | brk => exact False.elim hq'
    | cont => exact False.elim hq'
/-! ### read -/
def tXo (K : PySem.W.Frag) (f : Str) (te : TE) : TE := fun σ H Q => te σ H fun x H1 => ∃ (a C dd : Addr) (fs : List (Str × V)) (v : V), x = .ref a ∧ H1 a = some (exo a C (some dd)) ∧ H1 dd = some (exd dd fs) ∧ XfC K C ∧ PySem.W.findIn K (.ref C) f = some none ∧ fs.lookup f = some v ∧ Q v H1
theorem pe_xo {n : Str} (he : PE X e te) (hb : attributeBase e n X.env (eval e X.env) = eval e X.env := by rfl) : PE X (.Attribute e n pos) (tXo X.K n te) := by
  refine ⟨fun pins s σ H Q I h => ?_⟩
  refine attr_of hb (thn (he.run pins s σ H _ I h) fun u s1 hh => ?_)
  obtain ⟨x, H1, I1, rx, a, C, dd, fs, v, ex, ea, ed, T, hno, l, q⟩ := hh
  subst ex
  obtain rfl : u = Value.ref a := rx
  obtain ⟨t1, ho⟩ := exo_at I1.hok ea
  obtain ⟨mA, hns, hr⟩ := exd_at I1.hok ed
  obtain ⟨od, hod, hl⟩ := lookIn_ns hns
  obtain ⟨u, hu, ru⟩ := RelO.some_of (v := v) (o := mA n) (by rw [← l]; exact hr n)
  have J : PySem.W.InstAt s1.heap a { cls := .ref C, dict := some dd, data := .fields #[.ref t1, .none, .none, .none, .bool false, .none] } C (some od) := ⟨ho, rfl, rfl, hod⟩
  exact HandSPX.exc_get I1.kIn J T.ga T.gg T.exC (PySem.W.findObj_own T.hdC hno rfl (by rw [hl, hu])) (handed_of ru) ⟨v, H1, I1.tok _, ru, q⟩
end
/-! ### isinstance -/
def rIsO (K : PySem.W.Frag) : List V → Hp → VK → Prop := fun xs H Q => ∃ (a C d : Addr) (fs : List (Str × V)) (c : V) (cv : Value) (b : Bool), xs = [.ref a, c] ∧ H a = some (exo a C (some d)) ∧ H d = some (exd d fs) ∧ ExcC K C ∧ (∀ u, RelV c u → u = cv) ∧ PySem.W.kitOne K (.ref C) cv = some b ∧ Q (.bl b) H
theorem call_isO {X : Cx} : CallR X (.builtin "isinstance") (rIsO X.K) := by
  intro pins s σ H xs us Q I r h
  obtain ⟨a, C, d, fs, c, cv, b, rfl, ea, ed, T, hcv, e, q⟩ := h
  obtain ⟨u1, u2, rfl, r1, r2⟩ := vals2 r
  cases (show u1 = Value.ref a from r1)
  have ec := hcv _ r2
  subst ec
  obtain ⟨t1, ho⟩ := exo_at I.hok ea
  obtain ⟨mA, hns, hr⟩ := exd_at I.hok ed
  obtain ⟨od, hod, hl⟩ := lookIn_ns hns
  have J : PySem.W.InstAt s.heap a { cls := .ref C, dict := some d, data := .fields #[.ref t1, .none, .none, .none, .bool false, .none] } C (some od) := ⟨ho, rfl, rfl, hod⟩
  exact PySem.W.kia_one (PySem.W.fs_kitx T.hg T.hk T.hs T.hd T.ha T.hn T.ht T.hm) I.kIn ⟨_, _, J⟩ e (fun z => nomatch z) fun tk => ⟨.bl b, H, I.tok tk, rfl, q⟩
/-! ### repr of a list of plain values (an empty dict among them, not deeper) -/
inductive Dq (K : PySem.W.Frag) (H : Hp) : V → PyData → Prop
  | dp {v : V} {d : PyData} : Dp K H v d → d.hasDict = false → Dq K H v d
  | emp {a : Addr} : H a = some (.dK []) → Dq K H (.ref a) (.dict [])
inductive DqAll (K : PySem.W.Frag) (H : Hp) : List V → List PyData → Prop
  | nil : DqAll K H [] []
  | cons {v : V} {vs : List V} {d : PyData} {ds : List PyData} : Dq K H v d → DqAll K H vs ds → DqAll K H (v :: vs) (d :: ds)
section
variable {X : Cx} {pins : List (Addr × Obj)} {σ : L2.St} {H : Hp} {s : Shared}
theorem Dq.repr (I : Inv X pins σ H s) {v : V} {d : PyData} {u : Value} (h : Dq X.K H v d) (r : RelV v u) (hs : d.showable = true) (hz : d.shown.length ≤ sizeLine) :
    ∃ as bs, Reads s.heap u d as ∧ ReadAtMost s.heap d.depth bs ∧ ReprK X.prog X.w bs s.heap d.depth u d.shown := by
  cases h with
  | dp h hd =>
    obtain ⟨as, rd⟩ := Dp.reads I d v u h r
    obtain ⟨bs, h1, h2⟩ := ReprK.of_reads (prog := X.prog) (w := X.w) rd hs (PyData.noDict_hsm hd) hz
    exact ⟨as, bs, rd, h1, h2⟩
  | @emp a ea =>
    cases (show u = Value.ref a from r)
    obtain ⟨_, hsm, vs, kv, o, es, ep, h1, h2, h3, _, h4, _⟩ := (show ObjOk X.prog X.w H s.heap a (.dK []) from I.hok a _ ea)
    cases kv
    have e0 : es.toList = [] := by
      cases hq : es.toList with
      | nil => rfl
      | cons x xs =>
        rw [hq] at h4
        first | exact absurd h4 (by simp [Pairs]) | cases h4
    have rd : Reads s.heap (.ref a) (.dict []) (a :: [] ++ []) := .dict (kvs := []) h1 h2.1 h3 (by rw [e0]; exact .nil) (by rw [e0]; exact .nil)
    obtain ⟨bs, q1, q2⟩ := ReprK.of_reads (prog := X.prog) (w := X.w) rd hs (fun _ hm => by
      have : sysModules = a := by simpa using hm
      rw [this] at hsm
      simp at hsm) hz
    exact ⟨_, bs, rd, q1, q2⟩
theorem DqAll.repr (I : Inv X pins σ H s) : ∀ {vs : List V} {ds : List PyData} {us : List Value}, DqAll X.K H vs ds → Vals vs us → PyData.showableAll ds = true → (∀ t ∈ PyData.shownAll ds, t.length ≤ sizeLine) →
    ∃ as bs, ReadsAll s.heap us ds as ∧ ReadAtMost s.heap (PyData.depthAll ds) bs ∧ ReprAllK X.prog X.w bs s.heap (PyData.depthAll ds) us (PyData.shownAll ds)
  | _, _, _, .nil, .nil, _, _ => ⟨[], [], .nil, (fun _ h => nomatch h), by simp only [PyData.shownAll]; exact .nil⟩
  | _, _, _, .cons (d := d) (ds := ds) h hl, .cons r rl, hs, hz => by
    have hs2 : d.showable = true ∧ PyData.showableAll ds = true := by simpa [PyData.showableAll] using hs
    obtain ⟨a1, c1, rd1, q1, k1⟩ := Dq.repr I h r hs2.1 (hz _ (by simp only [PyData.shownAll]; exact List.mem_cons_self ..))
    obtain ⟨a2, c2, rd2, q2, k2⟩ := DqAll.repr I hl rl hs2.2 (fun t ht => hz t (by simp only [PyData.shownAll]; exact List.mem_cons_of_mem _ ht))
    refine ⟨_, c1 ++ c2, .cons rd1 rd2, ?_, ?_⟩
    · simp only [PyData.depthAll]
      exact (q1.mono (Nat.le_max_left _ _)).append (q2.mono (Nat.le_max_right _ _))
    · simp only [PyData.depthAll, PyData.shownAll]
      exact .cons ((k1.more fun b hb => List.mem_append_left _ hb).level_le (Nat.le_max_left _ _)) (k2.more_le (fun b hb => List.mem_append_right _ hb) (Nat.le_max_right _ _))
end
def rReprL (K : PySem.W.Frag) : List V → Hp → VK → Prop := fun xs H Q => ∃ (a : Addr) (v : V) (vs : List V) (ds : List PyData), xs = [.ref a] ∧ H a = some (.lst (v :: vs)) ∧ DqAll K H (v :: vs) ds ∧ PyData.showableAll ds = true ∧ PyData.depthAll ds ≤ 30 ∧
  (listText (PyData.shownAll ds)).length ≤ sizeLine ∧ Q (.str (listText (PyData.shownAll ds))) H
theorem call_reprL {X : Cx} (hg : X.A.guards = some []) (hu : X.A.units + 64 < cLine) : CallR X (.builtin "repr") (rReprL X.K) := by
  intro pins s σ H xs us Q I r h
  obtain ⟨a, v, vs, ds, rfl, ea, hd, hs, hdep, hz, q⟩ := h
  cases r with
  | cons ra rn =>
    cases rn
    rename_i u1
    cases (show u1 = Value.ref a from ra)
    obtain ⟨_, its, n, rv, ho⟩ := (show ObjOk X.prog X.w H s.heap a (.lst (v :: vs)) from I.hok a _ ea)
    cases rv with
    | @cons _ u _ ul r1 r2 =>
      obtain ⟨as, bs, rd, hb, hk⟩ := DqAll.repr I hd (.cons r1 r2) hs (fun t ht => Nat.le_trans (listText_mem_le ht) hz)
      have rr : Reads s.heap (.ref a) (.list ds) (a :: as) := .list ho rfl rfl rd
      have hna : a ∉ bs := not_mem_of_deeper rr (by simp only [PyData.depth]; omega) hb
      refine call_repr_slot (by omega) ⟨_, ho, rfl⟩ F.slot_list_repr.toG ?_
      exact call_list_reprK ho rfl rfl hna (by simpa using hk.length_eq) (fun i y e => hk.item i y (by simpa using e)) hg (fun b _ => Clear.nil b) (by show X.A.units + 1 + _ < cLine; omega) (fun _ _ e => e)
        (fun h' t tk hk' => ⟨_, _, rfl, .str (listText (PyData.shownAll ds)), H, I.kept (t' := tk) hk', ⟨_, rfl⟩, q⟩) hz
end FS

set_option Elab.async false
set_option linter.all false
set_option maxRecDepth 100000
set_option maxHeartbeats 4000000
/-! The law's own def is called where no guard stands: its promise may use that (repr of lists asks it). -/
namespace FS
open PySem PySem.Spec PyProof.Rows L2
structure FnG (P : Program) (w : World) (K : PySem.W.Frag) (mg : Str → Option Value) (base : Heap) (k : Nat) (f : Addr) (fd : FuncData) (ps : List Str) (sp : Sp) : Prop where
  len : ∀ vs H Q E, sp vs H Q E → vs.length = ps.length
  run : ∀ (A : Around) (out1 : List Env) (st1 : Shared) (H : Hp) (args : Args) (us : List Value) (vs : List V) (Q : VK) (E : XK), A.guards = some [] → Room k A → Env0 P w K mg base A out1 st1 H → BindsTo st1 fd args (ps.zip us) → Vals vs us → sp vs H Q E →
    codeAny (model P w) A (.call (.ref f) args) (CR CX0 out1 P w H st1 Q E) st1
section
variable {P : Program} {w : World} {K : PySem.W.Frag} {mg : Str → Option Value} {base : Heap}
theorem okG {x qual : Str} {st : Stmt} {f : Addr} {fd : FuncData} {N ps : List Str} {k : Nat} {sp : Sp} (F : Fun K x qual st f fd) (S : FnScope N ps (defScope st)) (hlen : ∀ vs H Q E, sp vs H Q E → vs.length = ps.length)
    (hbd : ∀ (cdv : Value) (A : Around) (out1 : List Env) (st1 : Shared) (H : Hp) (vs : List V) (Q : VK) (E : XK), (A.deeper (envOfC qual (defScope st) st1.heap.objs.size f cdv)).guards = some [] → Room k (A.deeper (envOfC qual (defScope st) st1.heap.objs.size f cdv)) → sp vs H Q E →
      ∃ t, PSs (cxOf CX0 P w K mg base N qual (defScope st) f cdv A out1 st1 H E).nox (defBody st) t ∧ t { nx := fun _ H' => Q .non H', rt := Q } (start N vs) H) : FnG P w K mg base (k + 1) f fd ps sp := by
  obtain ⟨oc, od, kV, doc, pm, an, cdv, ct, osl, rfl, lk, hcd⟩ := F.ex
  refine ⟨hlen, fun A out1 st1 H args us vs Q E hgd hr1 en0 hb1 rv1 hsp1 => ?_⟩
  have hl1 := hlen _ _ _ _ hsp1
  have KX1 : K.In st1.heap := en0.mod.kin.keeps fun b1 o1 e1 => (en0.bs b1 o1 e1).1
  have lim1 : st1.heap.NoLimit := en0.mod.nolimit.keeps fun b1 o1 e1 => (en0.bs b1 o1 e1).1
  have hknd : ∀ y1 ∈ ps.zip us, (defScope st).names.lookup y1.1 = some .local ∨ ((defScope st).names.lookup y1.1 = some .cell ∧ ((cellsFrom (st1.heap.objs.size + 1) (defScope st).names []).lookup y1.1).isSome = true) := fun ⟨n1, v1⟩ hy1 => by
    rcases S.par n1 (List.of_mem_zip hy1).1 with q1 | q1
    · exact .inl q1
    · exact .inr ⟨q1, PySem.W.cellsFrom_some _ _ _ (.inl q1)⟩
  refine codeAny_call_function hr1.depth (KX1 _ _ lk) rfl S.co S.gen rfl (PySem.W.codeRec_of KX1 hcd) (hb1 _ _ _ _ ?_)
  refine wpAny_newFunctionEnv_cells S.kind hknd fun env1 he1 st2 x1 => ?_
  subst he1; refine ⟨lim1.keeps x1.toInCall.keep, codeAny_func ?_⟩
  obtain ⟨t, ht0, hq1⟩ := hbd cdv A out1 st1 H vs Q E hgd (hr1.deeper _) hsp1
  have ht := ht0.nox
  have I1 : Inv (cxOf CX0 P w K mg base N qual (defScope st) f cdv A out1 st1 H E) [] (start N vs) H st2 := inv_start S hr1.hd en0 hl1 rv1 x1
  refine wpAny_mono (ht.run [] st2 (start N vs) H _ I1 hq1) (fun fl st3 hs1 => ?_) fun _ st3 hs1 => hs1
  have done1 : ∀ {σ1 : L2.St} {H1 : Hp} {v : V} {u : Value}, Inv (cxOf CX0 P w K mg base N qual (defScope st) f cdv A out1 st1 H E) [] σ1 H1 st3 → RelV v u → Q v H1 → CE out1 P w H st1 Q u st3 :=
    fun {σ1 H1 v u} J1 rv q1 => ⟨v, H1, J1.os, J1.bare, J1.base, J1.hok, rv, q1⟩
  cases fl with
  | ret u => obtain ⟨v, σ1, H1, J1, rv, q1⟩ := hs1; exact done1 J1 rv q1
  | next => obtain ⟨σ1, H1, J1, q1⟩ := hs1; exact done1 (v := V.non) (u := Value.none) J1 rfl q1
  | brk => obtain ⟨_, _, _, q1⟩ := hs1; exact False.elim q1
  | cont => obtain ⟨_, _, _, q1⟩ := hs1; exact False.elim q1
theorem law_callG {mb : Str → Option Value} {k : Nat} {fa a : Addr} {fd : FuncData} {x : Str} {sp : Sp} {st1 : Shared} {vs : List Value} {ns : List Int}
    (KX : K.In st1.heap) (hns : st1.heap.Ns mainGlobals mg) (hbl : st1.heap.Ns builtinsNs mb) (hbb : ∀ x : Str, x ≠ "__name__" → mb x = bootBuiltins x) (hlim : st1.heap.NoLimit) (hgn : st1.gens = #[])
    (hat : st1.heap.get? a = some { cls := .type "list", data := .seq vs.toArray }) (hi : IntsAre vs ns) (hl : ns.length ≤ sizeLine) (hr1 : Room k callerA)
    (F : ∀ base : Heap, K.In base → base.Ns mainGlobals mg → FnG P w K mg base k fa fd [x] sp) (hbind : ∀ (s : Shared) (u : Value), BindsTo s fd ⟨[u], []⟩ [(x, u)])
    (hsp1 : ∀ H : Hp, Only H → SqL K H a (ns.map V.int) → sp [.ref a] H (fun v _ => v = .bl true) fun _ _ _ => False) :
    codeAny (model P w) callerA (.call (.ref fa) ⟨[.ref a], []⟩) (fun r s' => r = .ok (.ret (.bool true)) ∧ OldK st1.heap s'.heap ∧ s'.os = st1.os ∧ AllBare s'.gens) st1 := by
  have rv1 := vals_ints hi
  have lenV1 := hi.length
  have core1 : ∀ H : Hp, Only H → SqL K H a (ns.map V.int) → HOk P w H st1.heap → (∀ b1, H b1 ≠ none → b1 = a) → (H a ≠ none → K.lookup a = none) →
      codeAny (model P w) callerA (.call (.ref fa) ⟨[.ref a], []⟩) (fun r s' => r = .ok (.ret (.bool true)) ∧ OldK st1.heap s'.heap ∧ s'.os = st1.os ∧ AllBare s'.gens) st1 := by
    intro H hO1 hS1 hok1 hA1 hK1
    have base1 : ∀ {b1 : Addr} {o1 : Obj}, st1.heap.get? b1 = some o1 → H b1 = none → (hidT st1.heap H).get? b1 = some o1 := fun e1 n1 => hidT_get e1 n1
    have noA1 : ∀ {b1 : Addr} {o1 : Obj} {es1 : Array DictEntry} {ep1 : Nat}, st1.heap.get? b1 = some o1 → o1.data = .dict es1 ep1 → H b1 = none := fun {b1 o1 es1 ep1} e1 d1 => by
      cases q1 : H b1 with
      | none => rfl
      | some u1 =>
        have e2 : b1 = a := hA1 b1 (by rw [q1]; simp)
        subst e2; rw [hat] at e1; cases e1
        have d2 : Data.seq vs.toArray _ = Data.dict es1 ep1 := d1
        cases d2
    have nsK1 : ∀ {b1 : Addr} {m : Str → Option Value}, st1.heap.Ns b1 m → (hidT st1.heap H).Ns b1 m := fun {b1 m} ⟨o1, es1, ep1, e1, d1, r1⟩ => ⟨o1, es1, ep1, base1 e1 (noA1 e1 d1), d1, r1⟩
    have hKb1 : K.In (hidT st1.heap H) := fun b1 o1 e1 => base1 (KX b1 o1 e1) (by
      cases q1 : H b1 with
      | none => rfl
      | some u1 =>
        have e2 : b1 = a := hA1 b1 (by rw [q1]; simp)
        subst e2; rw [hK1 (by rw [q1]; simp)] at e1; cases e1)
    have hM1 : Mod K mg (hidT st1.heap H) := ⟨hKb1, nsK1 hns, ⟨mb, nsK1 hbl, hbb⟩, let ⟨mc, h1, h2⟩ := hlim; ⟨mc, nsK1 h1, h2⟩⟩
    have en0 : Env0 P w K mg (hidT st1.heap H) callerA [] st1 H := ⟨rfl, hM1, fun b1 o1 e1 => of_hidT e1, Nat.le_of_eq (hidT_size _ _), trivial, fun b1 hb1 => absurd (show b1 ∈ ([] : List Addr) from hb1) (by simp), hok1, .of_eq hgn⟩
    refine codeAny_mono ((F _ hKb1 (nsK1 hns)).run callerA [] st1 H ⟨[.ref a], []⟩ [.ref a] [.ref a] _ _ rfl hr1 en0 (hbind st1 (.ref a)) (.cons rfl .nil) (hsp1 H hO1 hS1)) fun r s' h1 => ?_
    cases r with
    | error e1 => exact False.elim h1
    | ok fl =>
      cases fl with
      | next => exact False.elim h1
      | brk => exact False.elim h1
      | cont => exact False.elim h1
      | ret u1 =>
        obtain ⟨v1, H1, os1, bare1, un1, hok2, r1, q1⟩ := h1
        have q2 : v1 = .bl true := q1
        subst q2; obtain rfl : u1 = Value.bool true := r1
        refine ⟨rfl, OldK.of_keep fun b1 o1 e1 => ?_, os1, bare1⟩
        cases q3 : H b1 with
        | none => exact un1.keep b1 o1 e1 q3 (by intro z; exact absurd (show b1 ∈ ([] : List Addr) from z) (by simp)) (by simp)
        | some u2 =>
          rcases hO1 b1 with z1 | ⟨ob1, xs1, z1⟩
          · rw [q3] at z1; cases z1
          · have z2 := un1.frzs b1 ob1 _ z1
            obtain ⟨e3, _⟩ := hok1 b1 _ z1; obtain ⟨e4, _⟩ := hok2 b1 _ z2
            rw [e1] at e3; cases e3; exact e4
  cases hk1 : K.lookup a with
  | some o1 =>
    have e1 := KX a o1 hk1
    rw [hat] at e1; cases e1
    refine core1 (fun _ => none) (fun _ => .inl rfl) (.inr ⟨_, vs.toArray, _, hk1, rfl, rfl, rfl, by rw [List.size_toArray, lenV1]; exact hl, by simpa using rv1⟩) (fun b1 u1 z1 => by have z2 : (none : Option HO) = some u1 := z1; cases z2) (fun b1 z1 => absurd rfl z1) fun z1 => absurd rfl z1
  | none =>
    refine core1 (fun b1 => if b1 = a then some (.frz { cls := .type "list", data := .seq vs.toArray } (.lst (ns.map V.int))) else none) (fun b1 => ?_) (.inl (.inr ⟨{ cls := .type "list", data := .seq vs.toArray }, if_pos rfl⟩)) (fun b1 u1 z1 => ?_) (fun b1 z1 => ?_) fun _ => hk1
    · by_cases hb1 : b1 = a
      · exact .inr ⟨_, _, if_pos hb1⟩
      · exact .inl (if_neg hb1)
    · by_cases hb1 : b1 = a
      · have z2 := (if_pos hb1).symm.trans z1
        cases z2; subst hb1
        exact ⟨hat, by rw [List.length_map]; exact hl, vs, _, rv1, hat⟩
      · have z2 := (if_neg hb1).symm.trans z1
        cases z2
    · by_cases hb1 : b1 = a
      · exact hb1
      · exact absurd (if_neg hb1) z1
end
theorem walk_G {l : PySem.W.OpenLaw} {n k : Nat} {qp : Program} {loose : List Str} {XP : (Str → Option Value) → Heap → Prop} {YP : World → Heap → Prop} {dr : DefRec} {KK : Params → PySem.W.Frag} {sp : World → Sp} {x : Str}
    (hn : l.most = some n) (hn2 : n ≤ sizeLine) (hdf : dr.params.defaults = []) (hr1 : Room k callerA) (hY : ∀ (w : World) (h : Heap), YP w h → (KK w.params).In h)
    (F : ∀ (w : World) (mg : Str → Option Value) (fa : Addr) (h : Heap), (KK w.params).In h → h.Ns mainGlobals mg → mg dr.name = some (.ref fa) →
      ∃ fd : FuncData, (∀ (s : Shared) (u : Value), BindsTo s fd ⟨[u], []⟩ [(x, u)]) ∧ ∀ base : Heap, (KK w.params).In base → base.Ns mainGlobals mg → FnG l.prog w (KK w.params) mg base k fa fd [x] (sp w))
    (hsp1 : ∀ (w : World) (H : Hp) (a : Addr) (ns : List Int), ns.length ≤ n → Only H → SqL (KK w.params) H a (ns.map V.int) → sp w [.ref a] H (fun v _ => v = .bl true) fun _ _ _ => False) :
    PySem.W.WalkO qp loose XP YP l.row.toRowW dr [] (fun f vs => PySem.call f vs) := by
  refine Att.attach_call hn hdf fun w s0 st1 mg mb fa o pm cd doc a vs ns G Y ho hd hcd hmg hobj hints hlen hgn => ?_
  have KX1 := hY w _ Y
  obtain ⟨fd, hb1, hF1⟩ := F w mg fa _ KX1 G.T.g hmg
  exact law_callG KX1 G.T.g G.T.b G.T.builtins G.T.nolimit hgn hobj hints (Nat.le_trans hlen hn2) hr1 hF1 hb1 (fun H hO1 hS1 => hsp1 w H a ns hlen hO1 hS1)
end FS

set_option Elab.async false
set_option linter.all false
set_option maxRecDepth 100000
set_option maxHeartbeats 4000000
/-! What both laws on errors use: an error's class, a made error, plain values that repr shows, isinstance over a list of errors. -/
namespace FS
open PySem PySem.Spec PyProof.Rows L2
/-! ### heaps -/
theorem same_new {H : Hp} {p : Addr} {o : HO} (h : H p = none) : Same H (upd H p o) := fun b x e => by
  rw [upd_ne (ne_of_none e h)]; exact e
/-- all but p as it was -/
def Off (p : Addr) (H H' : Hp) : Prop := ∀ b o, b ≠ p → H b = some o → H' b = some o
theorem Off.of {p : Addr} {H H' : Hp} (h : Same H H') : Off p H H' := fun b o _ e => h b o e
theorem Off.trans {p : Addr} {H H1 H2 : Hp} (h : Off p H H1) (k : Off p H1 H2) : Off p H H2 := fun b o n e => k b o n (h b o n e)
theorem Off.put {p : Addr} {H : Hp} {o : HO} : Off p H (upd H p o) := fun b x n e => by rw [upd_ne n]; exact e
theorem Off.same {p : Addr} {H H1 H2 : Hp} (h : Same H H1) (hp : H p = none) (k : Off p H1 H2) : Same H H2 := fun b o e => k b o (ne_of_none e hp) (h b o e)
/-! ### plain values -/
mutual
theorem Dp_mono {K : PySem.W.Frag} {H H' : Hp} (s : Same H H') : ∀ (d : PyData) (v : V), Dp K H v d → Dp K H' v d
  | .none, _, h => by cases h; exact .non
  | .bool b, _, h => by cases h; exact .bl b
  | .int i, _, h => by cases h; exact .int i
  | .str x, _, h => by cases h; exact .str x
  | .list ds, _, h => by
    cases h with
    | lst hs ha => exact .lst (s.seq hs) (DpAll_mono s ds _ ha)
  | .tuple ds, _, h => by
    cases h with
    | tup hs ha =>
      refine .tup ?_ (DpAll_mono s ds _ ha)
      rcases hs with (h | ⟨o, h⟩) | h
      · exact .inl (.inl (s _ _ h))
      · exact .inl (.inr ⟨o, s _ _ h⟩)
      · exact .inr h
  | .dict _, _, h => by cases h
theorem DpAll_mono {K : PySem.W.Frag} {H H' : Hp} (s : Same H H') : ∀ (ds : List PyData) (vs : List V), DpAll K H vs ds → DpAll K H' vs ds
  | [], _, h => by cases h; exact .nil
  | d :: ds, _, h => by
    cases h with
    | cons h1 h2 => exact .cons (Dp_mono s d _ h1) (DpAll_mono s ds _ h2)
end
/-- a value that repr shows shortly -/
def Nice (K : PySem.W.Frag) (H : Hp) (v : V) (d : PyData) : Prop := Dq K H v d ∧ d.showable = true ∧ d.depth ≤ 5 ∧ d.shown.length ≤ 40
theorem Dq_mono {K : PySem.W.Frag} {H H' : Hp} {v : V} {d : PyData} (s : Same H H') (h : Dq K H v d) : Dq K H' v d := by
  cases h with
  | dp h hd => exact .dp (Dp_mono s d v h) hd
  | emp h => exact .emp (s _ _ h)
theorem Nice.mono {K : PySem.W.Frag} {H H' : Hp} {v : V} {d : PyData} (s : Same H H') (h : Nice K H v d) : Nice K H' v d := ⟨Dq_mono s h.1, h.2⟩
inductive NiceAll (K : PySem.W.Frag) (H : Hp) : List V → List PyData → Prop
  | nil : NiceAll K H [] []
  | cons {v : V} {vs : List V} {d : PyData} {ds : List PyData} : Nice K H v d → NiceAll K H vs ds → NiceAll K H (v :: vs) (d :: ds)
theorem NiceAll.dq {K : PySem.W.Frag} {H : Hp} : ∀ {vs : List V} {ds : List PyData}, NiceAll K H vs ds → DqAll K H vs ds
  | _, _, .nil => .nil
  | _, _, .cons h t => .cons h.1 t.dq
theorem NiceAll.show {K : PySem.W.Frag} {H : Hp} : ∀ {vs : List V} {ds : List PyData}, NiceAll K H vs ds → PyData.showableAll ds = true
  | _, _, .nil => by simp [PyData.showableAll]
  | _, _, .cons h t => by simp only [PyData.showableAll, h.2.1, t.show, Bool.and_self]
theorem NiceAll.depth {K : PySem.W.Frag} {H : Hp} : ∀ {vs : List V} {ds : List PyData}, NiceAll K H vs ds → PyData.depthAll ds ≤ 30
  | _, _, .nil => by simp [PyData.depthAll]
  | _, _, .cons h t => by
    simp only [PyData.depthAll]
    have h1 := h.2.2.1
    have h2 := t.depth
    omega
theorem text_len : ∀ (ts : List Str) (k : Nat) (acc : Str), (∀ t ∈ ts, t.length ≤ 40) → (textFrom k acc ts).length ≤ acc.length + 42 * ts.length
  | [], k, acc, _ => Nat.le_refl _
  | t :: r, k, acc, h => by
    have h1 := h t (List.mem_cons_self ..)
    have h2 : (Str.ofString "").length = 0 := by decide
    have h3 : (Str.ofString ", ").length = 2 := by decide
    unfold textFrom
    refine Nat.le_trans (text_len r _ _ (fun x hx => h x (List.mem_cons_of_mem _ hx))) ?_
    rw [List.length_cons]
    repeat rw [strLen_append]
    split <;> omega
theorem NiceAll.len {K : PySem.W.Frag} {H : Hp} : ∀ {vs : List V} {ds : List PyData}, NiceAll K H vs ds → (PyData.shownAll ds).length = vs.length ∧ ∀ t ∈ PyData.shownAll ds, t.length ≤ 40
  | _, _, .nil => ⟨by simp [PyData.shownAll], fun t h => by simp [PyData.shownAll] at h⟩
  | _, _, .cons h t => by
    obtain ⟨h1, h2⟩ := t.len
    simp only [PyData.shownAll]
    refine ⟨by rw [List.length_cons, List.length_cons, h1], fun x hx => ?_⟩
    rcases List.mem_cons.mp hx with rfl | hx
    · exact h.2.2.2
    · exact h2 x hx
theorem NiceAll.size {K : PySem.W.Frag} {H : Hp} {vs : List V} {ds : List PyData} (h : NiceAll K H vs ds) (hv : vs.length ≤ 1000) : (listText (PyData.shownAll ds)).length ≤ sizeLine := by
  obtain ⟨h1, h2⟩ := h.len
  have h3 := text_len (PyData.shownAll ds) 0 "[" h2
  have h4 : (Str.ofString "[").length = 1 := by decide
  have h5 : (Str.ofString "]").length = 1 := by decide
  unfold listText
  rw [strLen_append, sizeLine_eq]
  rw [h1] at h3
  omega
end FS

set_option Elab.async false
set_option linter.all false
set_option maxRecDepth 100000
set_option maxHeartbeats 4000000
namespace FS
open PySem PySem.Spec PyProof.Rows L2
/-! ### an error's class -/
structure EC (K : PySem.W.Frag) (mg : Str → Option Value) (nm : Str) (C fI : Addr) : Prop where
  oex : OexC K C
  gC : mg nm = some (.ref C)
  iC : PySem.W.findIn K (.ref C) "__init__" = some (some (.ref fI))
  tI : PySem.W.typeIn K (.ref fI) = some (.type "function")
  xf : XfC K C
  ec : ExcC K C
theorem ec_mk {K : PySem.W.Frag} {h : Heap} {mg : Str → Option Value} (X : K.In h) (G : h.Ns mainGlobals mg) {nm : Str} {C fI : Addr} {n1 q : Str} {N : Addr} {bs bm : List Value} {sn : List Str} {sub : List Value} {ab : Bool} {col : Option Bool} {dd : Option Addr} {m0 m1 m2 m3 m5 : Option Value}
    (aC : PySem.W.nsIn K mainGlobals nm = some (some (.ref C))) (xL : K.lookup C = some (excClassObj n1 q C N bs bm true sn sub ab col dd m0 m1 m2 m3 m5 "ValueError.__new__")) (bmv : PySem.HandSPX.refsVE bm = true)
    (sa : PySem.W.findIn K (.ref C) "__setattr__" = some (some (.builtin "object.__setattr__"))) (ga : PySem.W.findIn K (.ref C) "__getattribute__" = some (some (.builtin "BaseException.__getattribute__"))) (gg : PySem.W.findIn K (.ref C) "__getattr__" = some none)
    (a1 : PySem.W.findIn K (.ref C) "__init__" = some (some (.ref fI))) (t1 : PySem.W.typeIn K (.ref fI) = some (.type "function")) (kC : PySem.W.keepIn K (.ref C) = true) (eC : PySem.W.subIn K (.ref C) (.type "BaseException") = some true)
    (tC : PySem.W.typeIn K (.ref C) = some (.type "type")) (hC : PySem.W.hasDictIn K C = true) (cC : PySem.W.findIn K (.ref C) "__class__" = some (some (.builtin "object.__class__"))) (mC : PySem.W.mroIn K C (.type "object") = some true)
    (hn : PySem.W.specialIn K (.builtin "object.__class__") "__get__" = some (some (.builtin "getset_descriptor.__get__"))) (ht : PySem.W.takesIn K (.builtin "object.__class__") = some true) : EC K mg nm C fI :=
  ⟨⟨⟨n1, q, N, bs, bm, sn, sub, ab, col, dd, m0, m1, m2, m3, m5, xL, bmv⟩, sa, eC, tC, kC⟩, PySem.W.mg_of X G aC, a1, t1, ⟨ga, gg, eC, hC⟩, ⟨ga, gg, eC, hC, cC, hn, ht, mC⟩⟩
/-- isinstance's answer over classes -/
theorem kit_own {K : PySem.W.Frag} {D C : Addr} {b : Bool} (hd : PySem.W.hasDictIn K C = true) (ty : PySem.W.typeIn K (.ref C) = some (.type "type")) (h : PySem.W.subIn K (.ref D) (.ref C) = some b) (hb : D = C → b = true) : PySem.W.kitOne K (.ref D) (.ref C) = some b := by
  unfold PySem.W.kitOne
  by_cases e : D = C
  · subst e
    rw [if_pos (by simp), hb rfl]
  · have ne : ((Value.ref D) == (Value.ref C)) = false := beq_eq_false_iff_ne.mpr fun q => e (Value.ref.inj q)
    rw [ne, if_neg Bool.false_ne_true]
    obtain ⟨cd, hc, _⟩ := PySem.W.any_some hd
    show (if ((PySem.W.clsIn K C).isSome && PySem.W.typeIn K (.ref C) == some (.type "type")) = true then PySem.W.subIn K (.ref D) (.ref C) else none) = some b
    rw [if_pos (by rw [hc, ty] <;> rfl)]
    exact h
theorem kit_ve {K : PySem.W.Frag} {D : Addr} {b : Bool} (h : PySem.W.subIn K (.ref D) (.type "ValueError") = some b) : PySem.W.kitOne K (.ref D) (.type "ValueError") = some b := by
  unfold PySem.W.kitOne
  have ne : ((Value.ref D) == (Value.type "ValueError")) = false := beq_eq_false_iff_ne.mpr fun q => nomatch q
  rw [ne, if_neg Bool.false_ne_true]
  show (if PySem.W.kitMeta "ValueError" = true then PySem.W.subIn K (.ref D) (.type "ValueError") else none) = some b
  rw [if_pos (by decide +kernel)]
  exact h
/-! ### an error made -/
def ErrAt (H : Hp) (a C : Addr) (fs : List (Str × V)) : Prop := ∃ d, H a = some (exo a C (some d)) ∧ H d = some (exd d fs)
theorem ErrAt.mono {H H' : Hp} {a C : Addr} {fs : List (Str × V)} (s : Same H H') (h : ErrAt H a C fs) : ErrAt H' a C fs := by
  obtain ⟨d, h1, h2⟩ := h
  exact ⟨d, s _ _ h1, s _ _ h2⟩
def spI1 (C : Addr) (f : Str) : Sp := fun vs H Q _ => ∃ (a : Addr) (v : V), vs = [.ref a, v] ∧ H a = some (exo a C none) ∧ ∀ H', Off a H H' → ErrAt H' a C [(f, v)] → Q .non H'
def spI2 (C : Addr) (f g : Str) : Sp := fun vs H Q _ => ∃ (a : Addr) (v u : V), vs = [.ref a, v, u] ∧ H a = some (exo a C none) ∧ ∀ H', Off a H H' → ErrAt H' a C [(g, u), (f, v)] → Q .non H'
def spI3 (C : Addr) (f g i : Str) : Sp := fun vs H Q _ => ∃ (a : Addr) (v u x : V), vs = [.ref a, v, u, x] ∧ H a = some (exo a C none) ∧ ∀ H', Off a H H' → ErrAt H' a C [(i, x), (g, u), (f, v)] → Q .non H'
theorem off_first {H : Hp} {a dx C : Addr} {u : HO} (n : H dx = none) : Off a H (upd (upd H dx u) a (exo a C (some dx))) := fun b o hb e => by rw [upd_ne hb, upd_ne (ne_of_none e n)]; exact e
theorem err_first {H : Hp} {a dx C : Addr} {fs : List (Str × V)} (ne : dx ≠ a) : ErrAt (upd (upd H dx (exd dx fs)) a (exo a C (some dx))) a C fs := ⟨dx, upd_same, by rw [upd_ne ne, upd_same]⟩
theorem err_next {H : Hp} {a dx C : Addr} {fs : List (Str × V)} (ne : dx ≠ a) (h : H a = some (exo a C (some dx))) : ErrAt (upd H dx (exd dx fs)) a C fs := ⟨dx, by rw [upd_ne ne.symm]; exact h, upd_same⟩
section
variable {P : Program} {w : World} {K : PySem.W.Frag} {mg : Str → Option Value} {base : Heap} {H : Hp} {C : Addr} {f g i : Str} {Q : VK}
theorem mk1 {v : V} (h : ∀ a H', Same H H' → H a = none → ErrAt H' a C [(f, v)] → Q (.ref a) H') :
    [v].length ≤ 1000 ∧ ∀ a, H a = none → spI1 C f (.ref a :: ([v] ++ [])) (upd H a (exo a C none)) (fun v H2 => v = .non ∧ Q (.ref a) H2) (fun _ _ _ => False) :=
  ⟨by simp, fun a na => ⟨a, v, rfl, upd_same, fun H' o e => ⟨rfl, h a H' (Off.same (same_new na) na o) na e⟩⟩⟩
theorem mk2 {v u : V} (h : ∀ a H', Same H H' → H a = none → ErrAt H' a C [(g, u), (f, v)] → Q (.ref a) H') :
    [v, u].length ≤ 1000 ∧ ∀ a, H a = none → spI2 C f g (.ref a :: ([v, u] ++ [])) (upd H a (exo a C none)) (fun v H2 => v = .non ∧ Q (.ref a) H2) (fun _ _ _ => False) :=
  ⟨by simp, fun a na => ⟨a, v, u, rfl, upd_same, fun H' o e => ⟨rfl, h a H' (Off.same (same_new na) na o) na e⟩⟩⟩
theorem mk3 {v u x : V} (h : ∀ a H', Same H H' → H a = none → ErrAt H' a C [(i, x), (g, u), (f, v)] → Q (.ref a) H') :
    [v, u, x].length ≤ 1000 ∧ ∀ a, H a = none → spI3 C f g i (.ref a :: ([v, u, x] ++ [])) (upd H a (exo a C none)) (fun v H2 => v = .non ∧ Q (.ref a) H2) (fun _ _ _ => False) :=
  ⟨by simp, fun a na => ⟨a, v, u, x, rfl, upd_same, fun H' o e => ⟨rfl, h a H' (Off.same (same_new na) na o) na e⟩⟩⟩
end
/-! ### isinstance over a list of errors -/
inductive Isi (K : PySem.W.Frag) (H : Hp) (cv : Value) : List V → List Bool → Prop
  | nil : Isi K H cv [] []
  | cons {a C : Addr} {fs : List (Str × V)} {b : Bool} {vs : List V} {bs : List Bool} : ErrAt H a C fs → ExcC K C → PySem.W.kitOne K (.ref C) cv = some b → Isi K H cv vs bs → Isi K H cv (.ref a :: vs) (b :: bs)
theorem Isi.mono {K : PySem.W.Frag} {H H' : Hp} {cv : Value} (s : Same H H') : ∀ {vs : List V} {bs : List Bool}, Isi K H cv vs bs → Isi K H' cv vs bs
  | _, _, .nil => .nil
  | _, _, .cons h1 h2 h3 t => .cons (h1.mono s) h2 h3 (t.mono s)
theorem Isi.get {K : PySem.W.Frag} {H : Hp} {cv : Value} : ∀ {vs : List V} {bs : List Bool} {i : Nat} {v : V}, Isi K H cv vs bs → vs[i]? = some v → ∃ a C fs b, v = .ref a ∧ ErrAt H a C fs ∧ ExcC K C ∧ PySem.W.kitOne K (.ref C) cv = some b ∧ bs[i]? = some b
  | _, _, i, v, .nil, e => by simp at e
  | _, _, 0, v, .cons h1 h2 h3 t, e => by
    simp at e
    exact ⟨_, _, _, _, e.symm, h1, h2, h3, by simp⟩
  | _, _, i + 1, v, .cons h1 h2 h3 t, e => by
    simp at e
    obtain ⟨a, C, fs, b, r⟩ := t.get e
    exact ⟨a, C, fs, b, r.1, r.2.1, r.2.2.1, r.2.2.2.1, by simpa using r.2.2.2.2⟩
theorem Isi.len {K : PySem.W.Frag} {H : Hp} {cv : Value} : ∀ {vs : List V} {bs : List Bool}, Isi K H cv vs bs → bs.length = vs.length
  | _, _, .nil => rfl
  | _, _, .cons _ _ _ t => by rw [List.length_cons, List.length_cons, t.len]
/-- one isinstance -/
theorem isi_one {K : PySem.W.Frag} {H : Hp} {a C : Addr} {fs : List (Str × V)} {b : Bool} {c : V} {cv : Value} {Q : VK} (h1 : ErrAt H a C fs) (h2 : ExcC K C) (hc : ∀ u, RelV c u → u = cv) (h3 : PySem.W.kitOne K (.ref C) cv = some b) (q : Q (.bl b) H) : rIsO K [.ref a, c] H Q := by
  obtain ⟨d, e1, e2⟩ := h1
  exact ⟨a, C, d, fs, c, cv, b, rfl, e1, e2, h2, hc, h3, q⟩
/-- [isinstance(x, c) for x in xs] -/
theorem comp_isi {K : PySem.W.Frag} {i j : Nat} {σ : L2.St} {H : Hp} {Q : VK} {l : Addr} {vs : List V} {bs : List Bool} {c : V} {cv : Value} (h1 : σ[i]? = some (some (.ref l))) (hl : SqL K H l vs) (hv : Isi K H cv vs bs) (hc : ∀ u, RelV c u → u = cv) (hz : vs.length ≤ 100) (hj : j < σ.length)
    (hq : ∀ D H', Same H H' → H' D = some (.lst (bs.map .bl)) → Q (.ref D) H') : tLc (iList K (tVar i)) (gName j) tYes (tCB (rIsO K) (tCons (tVar j) (tCons (tC c) tNil))) [j] σ H Q := by
  refine ⟨_, h1, l, rfl, ⟨_, hl⟩, fun D hD => ?_⟩
  have s0 : Same H (upd H D (.lst [])) := same_new hD
  refine lc_list (xs := vs) (fun i H' => Same H H' ∧ H' D = some (.lst ((bs.take i).map .bl))) ⟨s0, upd_same⟩ (fun _ _ _ h => h.1.seq hl) (fun k x H' hx ⟨s, hd⟩ => ?_) (fun H' ⟨s, hd⟩ => hq D H' s ?_)
  · obtain ⟨a, C, fs, b, rfl, e1, e2, e3, e4⟩ := (hv.mono s).get hx
    refine ⟨by simp [wipe], ?_⟩
    refine ⟨.ref a, by simp [wipe, hj], ?_⟩
    dsimp only [tCons, tC, tNil]
    refine isi_one e1 e2 hc e3 ⟨_, hd, ?_, ?_, ?_⟩
    · rw [List.length_map, List.length_take]
      have := hv.len
      exact small1000 (by omega)
    · intro b' o e
      rw [upd_ne (ne_of_none e hD)]
      exact s _ _ e
    · rw [upd_same, List.take_add_one, e4, List.map_append]
      rfl
  · rw [hd, ← hv.len, List.take_length]
end FS

set_option Elab.async false
set_option linter.all false
set_option maxRecDepth 100000
set_option maxHeartbeats 4000000
namespace FS
open PySem PySem.Spec PyProof.Rows L2
section
variable {K : PySem.W.Frag} {H : Hp} {Q : VK}
theorem mkL {xs : List V} (hl : xs.length ≤ 1000) (h : ∀ p H', Same H H' → H p = none → H' p = some (.lst xs) → Q (.ref p) H') : xs.length ≤ sizeLine ∧ ∀ p, H p = none → Q (.ref p) (upd H p (.lst xs)) :=
  ⟨Nat.le_of_lt (small1000 hl), fun p np => h p _ (same_new np) np upd_same⟩
theorem mkT {xs : List V} (hl : xs.length ≤ 1000) (h : ∀ p H', Same H H' → H p = none → H' p = some (.tup xs) → Q (.ref p) H') : xs.length ≤ sizeLine ∧ ∀ p, H p = none → Q (.ref p) (upd H p (.tup xs)) :=
  ⟨Nat.le_of_lt (small1000 hl), fun p np => h p _ (same_new np) np upd_same⟩
theorem mkD (h : ∀ p H', Same H H' → H p = none → H' p = some (.dK []) → Q (.ref p) H') : ∀ p, H p = none → Q (.ref p) (upd H p (.dK [])) := fun p np => h p _ (same_new np) np upd_same
theorem mkCat {l b : Addr} {xs zs : List V} (hl : H l = some (.lst xs)) (hb : H b = some (.lst zs)) (hz : xs.length + zs.length ≤ 1000) (h : ∀ p H', Same H H' → H' p = some (.lst (xs ++ zs)) → Q (.ref p) H') : rCat (.ref l) (.ref b) H Q :=
  ⟨l, b, xs, zs, rfl, rfl, hl, hb, Nat.le_of_lt (small1000 hz), fun p np => h p _ (same_new np) upd_same⟩
theorem rp {a : Addr} {v : V} {vs : List V} {ds : List PyData} (ha : H a = some (.lst (v :: vs))) (hn : NiceAll K H (v :: vs) ds) (hl : (v :: vs).length ≤ 1000) (q : Q (.str (listText (PyData.shownAll ds))) H) : rReprL K [.ref a] H Q :=
  ⟨a, v, vs, ds, rfl, ha, hn.dq, hn.show, hn.depth, hn.size hl, q⟩
theorem rd_at {σ : L2.St} {l a C : Addr} {xs : List V} {i : Int} {j : Nat} {fs : List (Str × V)} {n : Str} {v : V} (hj : σ[j]? = some (some (.ref l))) (hL : H l = some (.lst xs)) (hx : atI xs i = some (.ref a)) (he : ErrAt H a C fs) (T : XfC K C)
    (no : PySem.W.findIn K (.ref C) n = some none) (hl : fs.lookup n = some v) (q : Q v H) : tXo K n (tOp (rIxL K) (tVar j) (tC (.int i))) σ H Q := by
  obtain ⟨d, h1, h2⟩ := he
  exact ⟨_, hj, l, xs, i, _, rfl, rfl, SqL.of hL, hx, a, C, d, fs, v, rfl, h1, h2, T, no, hl, q⟩
theorem dp_bools {a : Addr} {bs : List Bool} (h : H a = some (.lst (bs.map V.bl))) : Dp K H (.ref a) (.list (bs.map PyData.bool)) := by
  refine .lst (SqL.of h) ?_
  clear h
  induction bs with
  | nil => exact .nil
  | cons b r ih => exact .cons (.bl b) ih
/-- [spot == other for other in range(n)] -/
theorem comp_eq {σ : L2.St} {i j n : Nat} {z : Int} (hi : σ[i]? = some (some (.int z))) (hj : j < σ.length) (hne : i ≠ j) (hn : n ≤ 1000)
    (hq : ∀ D H', Same H H' → H' D = some (.lst ((List.range n).map fun k : Nat => V.bl (decide (V.int z = V.int (0 + (k : Int)))))) → Q (.ref D) H') : tLc (iRng1 (tCons (tC (.int (n : Int))) tNil)) (gName j) tYes (tOp rEq (tVar i) (tVar j)) [j] σ H Q := by
  refine ⟨(n : Int), rfl, by omega, by omega, fun D hD => ?_⟩
  refine lc_range (lo := 0) (n := n) (fun k H' => Same H H' ∧ H' D = some (.lst ((List.range k).map fun k : Nat => V.bl (decide (V.int z = V.int (0 + (k : Int))))))) ⟨same_new hD, upd_same⟩ (fun k H' hk ⟨s, hd⟩ => ?_) (fun H' ⟨s, hd⟩ => hq D H' s hd)
  refine ⟨by simp [wipe], ?_⟩
  refine ⟨.int z, ?_, .int (0 + (k : Int)), by simp [wipe, hj], rfl, _, hd, ?_, ?_, ?_⟩
  · simp [wipe, List.getElem?_set, hne.symm, hi]
  · rw [List.length_map, List.length_range]
    exact small1000 (by omega)
  · intro b o e
    rw [upd_ne (ne_of_none e hD)]
    exact s _ _ e
  · rw [upd_same, List.range_succ, List.map_append]
    rfl
theorem off_second {a dx C : Addr} {u1 u2 : HO} (n : H dx = none) : Off a H (upd (upd (upd H dx u1) a (exo a C (some dx))) dx u2) := fun b o hb e => by rw [upd_ne (ne_of_none e n), upd_ne hb, upd_ne (ne_of_none e n)]; exact e
theorem off_third {a dx C : Addr} {u1 u2 u3 : HO} (n : H dx = none) : Off a H (upd (upd (upd (upd H dx u1) a (exo a C (some dx))) dx u2) dx u3) := fun b o hb e => by rw [upd_ne (ne_of_none e n), upd_ne (ne_of_none e n), upd_ne hb, upd_ne (ne_of_none e n)]; exact e
end
end FS

set_option Elab.async false
set_option linter.all false
set_option maxRecDepth 100000
set_option maxHeartbeats 4000000
namespace FS
open PySem PySem.Spec PyProof.Rows L2
/-! Rules whose readings hand on a heap by a letter: what stood stands, and the new thing is there. -/
section
variable {X : Cx} {e : Expr} {es : List Expr} {te : TE} {t : TA} {p pos : Pos}
theorem pe_imp {t' : TE} (h : PE X e te) (i : ∀ σ H Q, t' σ H Q → te σ H Q) : PE X e t' := ⟨fun pins s σ H Q I q => h.run pins s σ H Q I (i σ H Q q)⟩
def tLstS (t : TA) : TE := fun σ H Q => t σ H fun xs H1 => xs.length ≤ 1000 ∧ ∀ p H', Same H1 H' → H1 p = none → H' p = some (.lst xs) → Q (.ref p) H'
def tTupS (t : TA) : TE := fun σ H Q => t σ H fun xs H1 => xs.length ≤ 1000 ∧ ∀ p H', Same H1 H' → H1 p = none → H' p = some (.tup xs) → Q (.ref p) H'
def tDictS : TE := fun _ H Q => ∀ p H', Same H H' → H p = none → H' p = some (.dK []) → Q (.ref p) H'
theorem pe_lstS (h : PA X es t) : PE X (.List es pos) (tLstS t) := by
  refine ⟨fun pins s0 σ H Q I hq => ?_⟩
  refine wpAny_List_spliced (thn (h.run pos pins s0 σ H _ I hq) fun us s1 ⟨xs, H1, I1, r, z, q⟩ => ⟨by rw [← r.length]; exact Nat.le_of_lt (small1000 z), ?_⟩)
  have nf : H1 s1.heap.objs.size = none := I1.hok.fresh (Nat.le_refl _)
  refine ⟨.ref s1.heap.objs.size, upd H1 s1.heap.objs.size (.lst xs), I1.laid (t' := s1.toks) (fun b u e1 => Heap.get?_push_of_some _ e1) (Nat.le_refl _) ?_, rfl, q _ _ (same_new nf) nf upd_same⟩
  exact ⟨Nat.le_of_lt (small1000 z), us, 0, r, Heap.get?_push_size _ rfl⟩
theorem pe_tupS {x1} (h : PA X es t) : PE X (.Tuple es x1 pos) (tTupS t) := by
  refine ⟨fun pins s0 σ H Q I hq => ?_⟩
  refine wpAny_Tuple_spliced (thn (h.run pos pins s0 σ H _ I hq) fun us s1 ⟨xs, H1, I1, r, z, q⟩ => ⟨by rw [← r.length]; exact Nat.le_of_lt (small1000 z), ?_⟩)
  have nf : H1 s1.heap.objs.size = none := I1.hok.fresh (Nat.le_refl _)
  refine ⟨.ref s1.heap.objs.size, upd H1 s1.heap.objs.size (.tup xs), I1.laid (t' := s1.toks) (fun b u e1 => Heap.get?_push_of_some _ e1) (Nat.le_refl _) ?_, rfl, q _ _ (same_new nf) nf upd_same⟩
  exact ⟨Nat.le_of_lt (small1000 z), us, r, ⟨_, Heap.get?_push_size _ rfl, rfl, _, rfl⟩⟩
theorem pe_dictS : PE X (.Dict [] [] pos) tDictS := pe_imp pe_dnewK fun σ H Q h p np => h p _ (same_new np) np upd_same
def rCatS : R2 := fun x y H Q => ∃ l b xs zs, x = .ref l ∧ y = .ref b ∧ H l = some (.lst xs) ∧ H b = some (.lst zs) ∧ xs.length + zs.length ≤ 1000 ∧ ∀ p H', Same H H' → H p = none → H' p = some (.lst (xs ++ zs)) → Q (.ref p) H'
theorem op_catS : OpR X (binaryOp .Add) rCatS := fun pins s σ H x y v u Q I rx ry ⟨l, b, xs, zs, e1, e2, h1, h2, hz, q⟩ =>
  op_cat pins s σ H x y v u Q I rx ry ⟨l, b, xs, zs, e1, e2, h1, h2, Nat.le_of_lt (small1000 hz), fun p np => q p _ (same_new np) np upd_same⟩
def rRepS : R2 := fun x y H Q => ∃ l k xs, x = .ref l ∧ y = .int k ∧ H l = some (.lst xs) ∧ 0 ≤ k ∧ k < 1000 ∧ xs.length * k.toNat ≤ 1000 ∧ ∀ p H', Same H H' → H p = none → H' p = some (.lst ((List.replicate k.toNat xs).flatten)) → Q (.ref p) H'
def tMk1 (C : Addr) (f : Str) (i : Nat) : TE := fun σ H Q => ∃ v, σ[i]? = some (some v) ∧ ∀ a H', Same H H' → H a = none → ErrAt H' a C [(f, v)] → Q (.ref a) H'
def tMk2 (C : Addr) (f g : Str) (i j : Nat) : TE := fun σ H Q => ∃ v u, σ[i]? = some (some v) ∧ σ[j]? = some (some u) ∧ ∀ a H', Same H H' → H a = none → ErrAt H' a C [(g, u), (f, v)] → Q (.ref a) H'
def tMk3 (C : Addr) (f g k : Str) (i j m : Nat) : TE := fun σ H Q => ∃ v u x, σ[i]? = some (some v) ∧ σ[j]? = some (some u) ∧ σ[m]? = some (some x) ∧ ∀ a H', Same H H' → H a = none → ErrAt H' a C [(k, x), (g, u), (f, v)] → Q (.ref a) H'
theorem pe_mk1 {C : Addr} {f : Str} {i : Nat} (h : PE X e (tMkV C (spI1 C f) [] (tCons (tVar i) tNil))) : PE X e (tMk1 C f i) := pe_imp h fun σ H Q ⟨v, e1, q⟩ => ⟨v, e1, mk1 q⟩
theorem pe_mk2 {C : Addr} {f g : Str} {i j : Nat} (h : PE X e (tMkV C (spI2 C f g) [] (tCons (tVar i) (tCons (tVar j) tNil)))) : PE X e (tMk2 C f g i j) := pe_imp h fun σ H Q ⟨v, u, e1, e2, q⟩ => ⟨v, e1, u, e2, mk2 q⟩
theorem pe_mk3 {C : Addr} {f g k : Str} {i j m : Nat} (h : PE X e (tMkV C (spI3 C f g k) [] (tCons (tVar i) (tCons (tVar j) (tCons (tVar m) tNil))))) : PE X e (tMk3 C f g k i j m) := pe_imp h fun σ H Q ⟨v, u, x, e1, e2, e3, q⟩ => ⟨v, e1, u, e2, x, e3, mk3 q⟩
def tCI (K : PySem.W.Frag) (i j : Nat) (c : V) : TE := fun σ H Q => ∃ (l : Addr) (vs : List V) (bs : List Bool) (cv : Value), σ[i]? = some (some (.ref l)) ∧ SqL K H l vs ∧ Isi K H cv vs bs ∧ (∀ u, RelV c u → u = cv) ∧ vs.length ≤ 100 ∧ j < σ.length ∧ ∀ D H', Same H H' → H' D = some (.lst (bs.map .bl)) → Q (.ref D) H'
theorem pe_ci {K : PySem.W.Frag} {i j : Nat} {c : V} (h : PE X e (tLc (iList K (tVar i)) (gName j) tYes (tCB (rIsO K) (tCons (tVar j) (tCons (tC c) tNil))) [j])) : PE X e (tCI K i j c) :=
  pe_imp h fun σ H Q ⟨l, vs, bs, cv, h1, h2, h3, h4, h5, h6, q⟩ => comp_isi h1 h2 h3 h4 h5 h6 q
def tCE (i j n : Nat) : TE := fun σ H Q => ∃ z : Int, σ[i]? = some (some (.int z)) ∧ j < σ.length ∧ ∀ D H', Same H H' → H' D = some (.lst ((List.range n).map fun k : Nat => V.bl (decide (V.int z = V.int (0 + (k : Int)))))) → Q (.ref D) H'
theorem pe_ce {i j n : Nat} (hne : i ≠ j) (hn : n ≤ 1000) (h : PE X e (tLc (iRng1 (tCons (tC (.int (n : Int))) tNil)) (gName j) tYes (tOp rEq (tVar i) (tVar j)) [j])) : PE X e (tCE i j n) := pe_imp h fun σ H Q ⟨z, h1, h2, q⟩ => comp_eq h1 h2 hne hn q
def tRep (K : PySem.W.Frag) (te : TE) : TE := fun σ H Q => te σ H fun x H1 => rReprL K [x] H1 Q
theorem pe_rep {K : PySem.W.Frag} (h : PE X e (tCB (rReprL K) (tCons te tNil))) : PE X e (tRep K te) := pe_imp h fun _ _ _ q => q
def tIsi (K : PySem.W.Frag) (te : TE) (c : V) : TE := fun σ H Q => te σ H fun x H1 => rIsO K [x, c] H1 Q
theorem pe_isi {K : PySem.W.Frag} {c : V} (h : PE X e (tCB (rIsO K) (tCons te (tCons (tC c) tNil)))) : PE X e (tIsi K te c) := pe_imp h fun _ _ _ q => q
end
end FS

set_option Elab.async false
set_option linter.all false
set_option maxRecDepth 100000
set_option maxHeartbeats 4000000
namespace FS
open PySem PySem.Spec PyProof.Rows L2
section
variable {X : Cx}
theorem count_eqU {y : V} : ∀ {xs : List V} {us : List Value}, Vals xs us → xs.all flatV = true → us.countP (eqU y) = xs.countP fun z => eqV z y
  | _, _, .nil, _ => rfl
  | x :: xs, u :: us, .cons r t, f => by
    rw [List.all_cons, Bool.and_eq_true] at f
    rw [List.countP_cons, List.countP_cons, eqU_of r f.1, count_eqU t f.2]
/-- xs.count(y), flat items -/
def rCntV (K : PySem.W.Frag) : V → List V → Hp → VK → Prop := fun x xs H Q => ∃ (p : Addr) (ys : List V) (y : V), x = .ref p ∧ xs = [y] ∧ SqL K H p ys ∧ flatV y = true ∧ ys.all flatV = true ∧ Q (.int (ys.countP (fun z => eqV z y) : Nat)) H
theorem mt_countV : MtR X "list.count" (rCntV X.K) := by
  intro pins s σ H x xs v us Q I rx rxs h
  obtain ⟨p, ys, y, rfl, rfl, hs, fy, fys, q⟩ := h
  cases rx
  obtain ⟨u, rfl, ru⟩ := rxs.one
  obtain ⟨its, rv, ⟨⟨cls, dd, data, sl⟩, n, ho, hc, hdn, hd⟩, hlen⟩ := I.list hs
  simp only at hc hd
  subst hc hd
  refine call_meets PySem.F.slot_list_count ⟨_, ho, rfl⟩ PySem.F.entry_list_count (PySem.F.args_list_count_2 _ _)
    (SeqAt.list_countAt p its.toArray n dd sl u (eqU y)) ⟨ho, fun z hz => mem_eqAt ru fy rv fys z (by simpa using hz), ?_⟩
  have ec : its.toArray.toList.countP (eqU y) = ys.countP fun z => eqV z y := count_eqU rv fys
  refine ⟨.int (ys.countP (fun z => eqV z y) : Nat), H, I.tok _, ⟨s.toks, ?_⟩, q⟩
  show Value.int ((its.toArray.toList.countP (eqU y) : Nat) : Int) s.toks = Value.int ((ys.countP (fun z => eqV z y) : Nat) : Int) s.toks
  rw [ec]
def rSlS (K : PySem.W.Frag) : V → Option Int → Option Int → Hp → VK → Prop := fun x lo hi H Q => ∃ a xs, x = .ref a ∧ SqL K H a xs ∧ ∀ p H', Same H H' → H p = none → H' p = some (.lst (cutV xs lo hi)) → Q (.ref p) H'
theorem sl_listS : SlR X (rSlS X.K) := fun pins s σ H x v vl vu lo hi sl Q I rx hs pl pu ⟨a, xs, e, hx, q⟩ =>
  sl_list pins s σ H x v vl vu lo hi sl Q I rx hs pl pu ⟨a, xs, e, hx, fun p np => q p _ (same_new np) np upd_same⟩
theorem call_listS : CallR X (.type "list") (fun xs H Q => ∃ p ys, xs = [.ref p] ∧ (SqL X.K H p ys ∨ SqT X.K H p ys) ∧ ∀ l H', Same H H' → H l = none → H' l = some (.lst ys) → Q (.ref l) H') := fun pins s σ H xs us Q I r ⟨p, ys, e, h, q⟩ =>
  call_list_of pins s σ H xs us Q I r ⟨p, ys, e, h, fun l nl => q l _ (same_new nl) nl upd_same⟩
theorem op_repS : OpR X (binaryOp .Mult) rRepS := fun pins s σ H x y v u Q I rx ry ⟨l, k, xs, e1, e2, h, k0, k1, hz, q⟩ =>
  op_rep pins s σ H x y v u Q I rx ry ⟨l, k, xs, e1, e2, h, by omega, by omega, Nat.le_of_lt (small1000 hz), fun p np => q p _ (same_new np) np upd_same⟩
end
theorem ixN_of {n j : Nat} (hj : j < n) : ixN n (j : Int) = some j := by
  unfold ixN
  rw [if_pos (by omega), if_pos (by omega)]; simp
theorem cut_ints (ns : List Int) (lo hi : Option Int) : ∃ ms : List Int, cutV (ns.map V.int) lo hi = ms.map V.int ∧ ms.length ≤ ns.length := by
  refine ⟨(ns.drop (HT.sIx (ns.map V.int).length 0 lo)).take (HT.sIx (ns.map V.int).length (ns.map V.int).length hi - HT.sIx (ns.map V.int).length 0 lo), ?_, ?_⟩
  · unfold cutV
    rw [List.map_take, List.map_drop]
  · rw [List.length_take, List.length_drop]
    omega
end FS

set_option Elab.async false
set_option linter.all false
set_option maxRecDepth 100000
set_option maxHeartbeats 4000000
/-! The module of texts, def by def: each hands back its mirror's value. -/
namespace TX
open PySem PySem.Spec PyProof.Rows L2 L2.FK FS
def top (i : Nat) : Stmt := PySem.Challenge.pw_foldsame_k10_module_texts.main.body.getD i (.Pass ⟨0, 0, 0, 0⟩)
def o : Nat := 13
abbrev sIsName : Stmt := top o
abbrev sReadInt : Stmt := top (o + 1)
/-! ### the mirror -/
def LET : Str := "abcdefghijklmnopqrstuvwxyz"
def DIG : Str := "0123456789"
def OTHERS : List Str := ["func", "data", "end", "export", "alias"]
def REGS : List Str := ["a", "b", "c", "d"]
def FORM : List (Str × List Str) := [("call", ["name"]), ("callr", ["reg"]), ("ret", []), ("addr", ["reg", "name"]), ("set", ["reg", "integer"]), ("move", ["reg", "reg"]), ("read", ["reg", "name", "integer"]), ("readr", ["reg", "reg", "integer"]), ("same", ["reg", "reg", "to"]), ("choose", ["to"]), ("tell", ["reg"]), ("go", ["to"])]
def formOf (z : Str) : Option (List Str) := FORM.lookup z
def inL (c : Nat) : Bool := decide (c ∈ LET.cps.toList)
def inD (c : Nat) : Bool := decide (c ∈ DIG.cps.toList)
def isName (z : Str) : Bool :=
  decide (1 ≤ z.length) && decide (z.length ≤ 8) && !OTHERS.contains z && !(formOf z).isSome && ((z.cps.toList[0]?).any inL) && z.cps.toList.all fun c => inL c || inD c
def readInt (z : Str) : Option Int :=
  if !(decide (1 ≤ z.length) && decide (z.length ≤ 2)) || !(z.cps.toList.all inD) then none
  else if z.length == 2 && z.cps.toList[0]? == some 48 then none else PySem.intText? z
/-! ### what the text holds -/
/-- a tuple of texts of the module -/
def KT (K : PySem.W.Frag) (a : Addr) (xs : List V) : Prop := ∃ (o : Obj) (its : Array Value) (n : Nat), K.lookup a = some o ∧ o.cls = .type "tuple" ∧ o.data = .seq its n ∧ its.size ≤ sizeLine ∧ Vals xs its.toList
theorem KT.sq {K : PySem.W.Frag} {a : Addr} {xs : List V} (h : KT K a xs) (H : Hp) : SqT K H a xs := .inr h
structure TT (K : PySem.W.Frag) (w : World) (mg : Str → Option Value) (aO aR dF : Addr) (es : Array DictEntry) (nF : Nat) (tF : Str → Addr) : Prop where
  gL : ∃ t, mg "LETTERS" = some (.str LET t)
  gD : ∃ t, mg "DIGITS" = some (.str DIG t)
  g8 : ∃ t, mg "LONGEST_NAME" = some (.int 8 t)
  gO : mg "OTHER_WORDS" = some (.ref aO)
  kO : KT K aO (OTHERS.map V.str)
  gR : mg "REGISTERS" = some (.ref aR)
  kR : KT K aR (REGS.map V.str)
  gF : mg "FORMS" = some (.ref dF)
  kF : KDict K w dF es nF
  lF : ∀ z, PySem.W.nsIn K dF z = some ((formOf z).map fun _ => Value.ref (tF z))
  tF : ∀ z ws, formOf z = some ws → KT K (tF z) (ws.map V.str)
  zi : mg "isinstance" = none
  zs : mg "str" = none
  zl : mg "len" = none
  za : mg "all" = none
  zy : mg "any" = none
  zn : mg "int" = none
  zz : mg "zip" = none
theorem b_isi : bootBuiltins "isinstance" = some (.builtin "isinstance") := by decide +kernel
theorem b_str : bootBuiltins "str" = some (.type "str") := by decide +kernel
theorem b_all : bootBuiltins "all" = some (.builtin "all") := by decide +kernel
theorem b_any : bootBuiltins "any" = some (.builtin "any") := by decide +kernel
theorem b_int : bootBuiltins "int" = some (.type "int") := by decide +kernel
/-- no text: isinstance tells -/
def NoStr (K : PySem.W.Frag) (H : Hp) (v : V) : Prop := ∃ t, TyX K H v t ∧ PySem.W.kitOne K t (.type "str") = some false
section
variable {P : Program} {w : World} {K : PySem.W.Frag} {mg : Str → Option Value} {base : Heap} {aO aR dF : Addr} {es : Array DictEntry} {nF : Nat} {tF : Str → Addr}
theorem len_cps (z : Str) : z.cps.toList.length = z.length := by
  show z.cps.toList.length = z.cps.size
  simp
theorem others_in (z : Str) : inV (.str z) (OTHERS.map V.str) = OTHERS.contains z := by
  have key : ∀ l : List Str, inV (.str z) (l.map V.str) = l.contains z := by
    intro l
    induction l with
    | nil => rfl
    | cons x r ih =>
      show (eqV (.str x) (.str z) || inV (.str z) (r.map V.str)) = _
      rw [ih, List.contains_cons]
      congr 1
      show (x == z) = (z == x)
      exact Bool.beq_comm
  exact key OTHERS
/-! ### is_name -/
def spIsName (K : PySem.W.Frag) : Sp := fun vs H Q _ => ∃ v, vs = [v] ∧ ((∃ z, v = .str z ∧ z.length ≤ sizeLine ∧ ∀ H', Same H H' → Q (.bl (isName z)) H') ∨ (NoStr K H v ∧ Q (.bl false) H))
theorem scN : FnScope ["value", "sign"] ["value"] (defScope sIsName) := ⟨rfl, rfl, rfl, by decide +kernel, rfl, by decide +kernel, by decide +kernel⟩
theorem ok_isName {f : Addr} {fd : FuncData} {k : Nat} (F : Fun K "is_name" "is_name" sIsName f fd) (T : TT K w mg aO aR dF es nF tF) : FnOk P w K mg base CX0 (k + 1) f fd ["value"] (spIsName K) := by
  obtain ⟨tL, gL⟩ := T.gL
  obtain ⟨tD, gD⟩ := T.gD
  obtain ⟨t8, g8⟩ := T.g8
  refine F.ok scN (fun vs H Q E h => ?_) (fun cdv A outer s H vs Q E hr h => ?_)
  · obtain ⟨v, rfl, _⟩ := h
    rfl
  · obtain ⟨v, rfl, q⟩ := h
    refine ⟨_, pss_cons (ps_if (PW.pt (pw_or (pt_not (pt_val (pe_callB call_isi (by rfl) T.zi b_isi (pa_cons (pv 0) (pa_cons (pe_bltn rfl T.zs b_str (v := .ty "str") rfl) pa_nil)))))
        (pw_or1 (pt_not (pt_chain op_le op_le pe_int (pe_callB call_len_str (by rfl) T.zl PySem.boot_len (pa_cons (pv 0) pa_nil)) (pe_glob rfl g8 (v := .int 8) ⟨_, rfl⟩)))))) (pss_one (ps_ret pe_bl)) pss_nil)
      (pss_cons (ps_if (PW.pt (pw_or (pt_cmpR op_in_seq (pv 0) (pe_glob rfl T.gO (v := .ref aO) rfl) (by rfl)) (pw_or1 (pt_cmpR (op_in_kd T.kF) (pv 0) (pe_glob rfl T.gF (v := .ref dF) rfl) (by rfl))))) (pss_one (ps_ret pe_bl)) pss_nil)
      (pss_one (ps_ret (pe_and (pe_cmpR op_in_sign (pe_ix ix_str (pv 0) pe_int (fun _ _ => rfl)) (pe_glob rfl gL (v := .str LET) ⟨_, rfl⟩) (by rfl))
        (pe_one (pe_callB (cr_all rfl) (by rfl) T.za b_all (pa_cons (pe_lc (own := [("sign", 1)]) (g := gName 1) (tt := tYes) rfl scN.nd (pi_str (pv 0)) (blkOk_by (N := ["value", "sign"]) (sc := defScope sIsName) (by decide +kernel)) (fun _ _ _ _ _ => pg_name (i := 1) scN.nd rfl (Or.inl rfl)) (fun _ _ _ _ _ => pts_nil)
          (fun _ _ _ _ _ => pe_or (pe_cmpR op_in_sign (pv 1) (pe_glob rfl gL (v := .str LET) ⟨_, rfl⟩) (by rfl)) (pe_one (pe_cmpR op_in_sign (pv 1) (pe_glob rfl gD (v := .str DIG) ⟨_, rfl⟩) (by rfl))))) pa_nil))))))), ?_⟩
    rcases q with ⟨z, rfl, hz, q⟩ | ⟨⟨t, ty, kt⟩, q⟩
    · have hq : ∀ (H' : Hp) (b : Bool), Same H H' → isName z = b → Q (.bl b) H' := fun H' b s e => by rw [← e]; exact q H' s
      have ks : PySem.W.kitOne K (.type "str") (.type "str") = some true := kit_ty (by decide +kernel)
      refine ⟨.str z, rfl, .str z, .ty "str", .type "str", .type "str", true, rfl, .ty "str", .base (.str z), ks, true, rfl, iteF ?_⟩
      refine ⟨.str z, rfl, z, rfl, hz, _, _, rfl, rfl, _, rfl, ?_⟩
      refine ite2 (fun h1 => ?_) (fun h1 => ⟨_, rfl, iteT (hq H false (Same.refl H) ?_)⟩)
      · refine ⟨_, _, rfl, rfl, _, rfl, ?_⟩
        by_cases h2 : (z.length : Int) ≤ 8
        · rw [decide_eq_true h2]
          refine iteF ?_
          refine ⟨.str z, rfl, aO, _, rfl, .inr (T.kO.sq H), rfl, by decide, ?_⟩
          rw [show (if false = true then !inV (V.str z) (OTHERS.map V.str) else inV (V.str z) (OTHERS.map V.str)) = OTHERS.contains z from others_in z]
          refine ⟨_, rfl, ?_⟩
          by_cases h3 : OTHERS.contains z = true
          · rw [h3]
            exact iteT (iteT (hq H false (Same.refl H) (by simp only [isName, h3, Bool.not_true, Bool.and_false, Bool.false_and])))
          · have h3' : OTHERS.contains z = false := by simpa using h3
            rw [h3']
            refine iteF ⟨.str z, rfl, z, _, rfl, rfl, T.lF z, _, rfl, ?_⟩
            by_cases h4 : (formOf z).isSome = true
            · rw [Option.isSome_map, h4]
              exact iteT (hq H false (Same.refl H) (by simp only [isName, h4, Bool.not_true, Bool.and_false, Bool.false_and]))
            · have h4' : (formOf z).isSome = false := by simpa using h4
              rw [Option.isSome_map, h4']
              refine iteF ?_
              have h1' : (1 : Int) ≤ (z.length : Int) := of_decide_eq_true h1
              obtain ⟨c, hc⟩ : ∃ c, z.cps.toList[0]? = some c := ⟨_, List.getElem?_eq_getElem (by rw [len_cps]; omega)⟩
              have n1 : decide (1 ≤ z.length) = true := decide_eq_true (by omega)
              have n2 : decide (z.length ≤ 8) = true := decide_eq_true (by omega)
              refine ⟨.str z, rfl, z, 0, c, rfl, rfl, hz, atI_nat (j := 0) hc, c, LET, rfl, rfl, _, rfl, ?_⟩
              refine ite2 (fun h5 => ?_) (fun h5 => hq H false (Same.refl H) ?_)
              · refine ⟨.str z, rfl, z, rfl, fun D hD => ?_⟩
                refine lc_it walk_str (fun i H' => Same H H' ∧ H' D = some (.lst ((z.cps.toList.take i).map fun c => V.bl (inL c || inD c)))) ⟨same_new hD, upd_same⟩ (fun _ _ _ _ => True.intro) (fun i x H1 H2 hi ⟨s1, e1⟩ ⟨eH, c', hc', ex⟩ => ?_) (fun H1 ⟨s1, e1⟩ => ?_)
                · subst eH
                  subst ex
                  have hi' : z.cps.toList[i]? = some c' := by simpa using hc'
                  have adv : (z.cps.toList.take (i + 1)).map (fun c => V.bl (inL c || inD c)) = (z.cps.toList.take i).map (fun c => V.bl (inL c || inD c)) ++ [V.bl (inL c' || inD c')] := by
                    rw [List.take_add_one, hi', List.map_append]
                    rfl
                  have sm : ((z.cps.toList.take i).map fun c => V.bl (inL c || inD c)).length < sizeLine := by
                    rw [List.length_map, List.length_take]
                    exact small1000 (by have := len_cps z; omega)
                  refine ⟨rfl, ?_⟩
                  refine ⟨.str ⟨#[c']⟩, rfl, c', LET, rfl, rfl, _, rfl, ?_⟩
                  have fin : ∀ b : Bool, b = (inL c' || inD c') → ∃ acc, H2 D = some (.lst acc) ∧ acc.length < sizeLine ∧ Same H (upd H2 D (.lst (acc ++ [.bl b]))) ∧ (upd H2 D (.lst (acc ++ [.bl b]))) D = some (.lst ((z.cps.toList.take (i + 1)).map fun c => V.bl (inL c || inD c))) := fun b eb =>
                    ⟨_, e1, sm, fun a o e => by rw [upd_ne (ne_of_none e hD)]; exact s1 _ _ e, by rw [upd_same, adv, eb]⟩
                  refine ite2 (fun h6 => fin true ?_) (fun h6 => ⟨.str ⟨#[c']⟩, rfl, c', DIG, rfl, rfl, fin _ ?_⟩)
                  · have h7 : inL c' = true := h6
                    rw [h7]
                    rfl
                  · have h7 : inL c' = false := by
                      have : ¬ inL c' = true := h6
                      simpa using this
                    rw [h7]
                    rfl
                · have e2 : H1 D = some (.lst ((z.cps.toList.map fun c => inL c || inD c).map V.bl)) := by
                    rw [e1, List.take_of_length_le (by simp), List.map_map]
                    rfl
                  refine ⟨D, _, rfl, SqL.of e2, hq H1 _ s1 ?_⟩
                  have h5' : inL c = true := h5
                  simp only [isName, n1, n2, h3', h4', hc, Option.any_some, h5', Bool.not_false, Bool.and_true, Bool.true_and, List.all_map]
                  rfl
              · have h5' : inL c = false := by
                  have : ¬ inL c = true := h5
                  simpa using this
                simp only [isName, hc, Option.any_some, h5', Bool.and_false, Bool.false_and]
        · rw [decide_eq_false h2]
          refine iteT (hq H false (Same.refl H) ?_)
          have n2 : decide (z.length ≤ 8) = false := decide_eq_false (by omega)
          simp only [isName, n2, Bool.and_false, Bool.false_and]
      · have n1 : decide (1 ≤ z.length) = false := decide_eq_false (by
          have h1' : ¬ (1 : Int) ≤ (z.length : Int) := fun e => h1 (decide_eq_true e)
          omega)
        simp only [isName, n1, Bool.false_and]
    · refine ⟨v, rfl, v, .ty "str", t, .type "str", false, rfl, .ty "str", ty, kt, false, rfl, iteT ?_⟩
      exact iteT q
end
end TX

set_option Elab.async false
set_option linter.all false
set_option maxRecDepth 100000
set_option maxHeartbeats 4000000
namespace TX
open PySem PySem.Spec PyProof.Rows L2 L2.FK FS
section
variable {X : Cx} {e : Expr}
/-- [t for sign in text], a test of each sign -/
def tCS (i j : Nat) (f : Nat → Bool) : TE := fun σ H Q => ∃ z, σ[i]? = some (some (.str z)) ∧ z.length ≤ sizeLine ∧ j < σ.length ∧ ∀ D H', Same H H' → H' D = some (.lst ((z.cps.toList.map f).map V.bl)) → Q (.ref D) H'
theorem pe_cs {i j : Nat} {te : TE} (f : Nat → Bool) (h : PE X e (tLc (iStr (tVar i)) (gName j) tYes te [j])) (hte : ∀ (c : Nat) (σ : L2.St) (H : Hp) (Q : VK), σ[j]? = some (some (.str ⟨#[c]⟩)) → Q (.bl (f c)) H → te σ H Q) : PE X e (tCS i j f) := by
  refine pe_imp h fun σ H Q ⟨z, hi, hz, hj, q⟩ => ⟨.str z, hi, z, rfl, fun D hD => ?_⟩
  refine lc_it walk_str (fun i H' => Same H H' ∧ H' D = some (.lst ((z.cps.toList.take i).map fun c => V.bl (f c)))) ⟨same_new hD, upd_same⟩ (fun _ _ _ _ => True.intro) (fun i x H1 H2 hi ⟨s1, e1⟩ ⟨eH, c', hc', ex⟩ => ?_) (fun H1 ⟨s1, e1⟩ => ?_)
  · subst eH
    subst ex
    have hi' : z.cps.toList[i]? = some c' := by simpa using hc'
    have adv : (z.cps.toList.take (i + 1)).map (fun c => V.bl (f c)) = (z.cps.toList.take i).map (fun c => V.bl (f c)) ++ [V.bl (f c')] := by
      rw [List.take_add_one, hi', List.map_append]
      rfl
    refine ⟨by simp [wipe], hte c' _ _ _ (by simp [wipe, hj]) ⟨_, e1, ?_, fun a o e => ?_, ?_⟩⟩
    · rw [List.length_map, List.length_take]
      have h9 : z.cps.size = z.length := rfl
      omega
    · rw [upd_ne (ne_of_none e hD)]
      exact s1 _ _ e
    · rw [upd_same, adv]
  · refine q D H1 s1 ?_
    rw [e1, List.take_of_length_le (by simp), List.map_map]
    rfl
end
theorem int_some {z : Str} (h1 : 1 ≤ z.length) (h2 : z.length ≤ 2) (hd : z.cps.toList.all inD = true) : ∃ n : Int, PySem.intText? z = some n ∧ 0 ≤ n ∧ n ≤ 99 := by
  obtain ⟨⟨l⟩⟩ := z
  have k1 : ∀ c ∈ DIG.cps.toList, (match PySem.intText? ⟨#[c]⟩ with | some n => decide (0 ≤ n ∧ n ≤ 99) | none => false) = true := by decide +kernel
  have k2 : ∀ c ∈ DIG.cps.toList, ∀ d ∈ DIG.cps.toList, (match PySem.intText? ⟨#[c, d]⟩ with | some n => decide (0 ≤ n ∧ n ≤ 99) | none => false) = true := by decide +kernel
  have fin : ∀ w : Str, (match PySem.intText? w with | some n => decide (0 ≤ n ∧ n ≤ 99) | none => false) = true → ∃ n : Int, PySem.intText? w = some n ∧ 0 ≤ n ∧ n ≤ 99 := fun w h => by
    cases e : PySem.intText? w with
    | none => rw [e] at h; cases h
    | some n =>
      rw [e] at h
      have h' := of_decide_eq_true h
      exact ⟨n, rfl, h'.1, h'.2⟩
  match l, h1, h2, hd with
  | [c], _, _, hd =>
    have hc : c ∈ DIG.cps.toList := by
      have : inD c = true := by simpa using hd
      exact of_decide_eq_true this
    exact fin _ (k1 c hc)
  | [c, d], _, _, hd =>
    have hc : inD c = true ∧ inD d = true := by simpa using hd
    exact fin _ (k2 c (of_decide_eq_true hc.1) d (of_decide_eq_true hc.2))
def optI : Option Int → V
  | some n => .int n
  | none => .non
def spReadInt : Sp := fun vs H Q _ => ∃ z, vs = [.str z] ∧ z.length ≤ sizeLine ∧ ∀ H', Same H H' → Q (optI (readInt z)) H'
section
variable {P : Program} {w : World} {K : PySem.W.Frag} {mg : Str → Option Value} {base : Heap} {aO aR dF : Addr} {es : Array DictEntry} {nF : Nat} {tF : Str → Addr}
theorem scR : FnScope ["word", "sign"] ["word"] (defScope sReadInt) := ⟨rfl, rfl, rfl, by decide +kernel, rfl, by decide +kernel, by decide +kernel⟩
theorem zero_sign (c : Nat) : decide ((V.str ⟨#[c]⟩) = (V.str "0")) = decide (c = 48) := by
  by_cases h : c = 48
  · subst h
    rfl
  · rw [decide_eq_false h]
    refine decide_eq_false fun e => h ?_
    have e2 := V.str.inj e
    have e3 : (Str.ofString "0") = ⟨#[48]⟩ := by decide
    rw [e3] at e2
    have e4 := congrArg (fun s : Str => s.cps.toList) e2
    simpa using e4
theorem ok_readInt {f : Addr} {fd : FuncData} {k : Nat} (F : Fun K "read_integer" "read_integer" sReadInt f fd) (T : TT K w mg aO aR dF es nF tF) : FnOk P w K mg base CX0 (k + 1) f fd ["word"] spReadInt := by
  obtain ⟨tD, gD⟩ := T.gD
  refine F.ok scR (fun vs H Q E h => ?_) (fun cdv A outer s H vs Q E hr h => ?_)
  · obtain ⟨v, rfl, _⟩ := h
    rfl
  · obtain ⟨z, rfl, hz, q⟩ := h
    refine ⟨_, pss_cons (ps_if (PW.pt (pw_or (pt_not (pt_chain op_le op_le pe_int (pe_callB call_len_str (by rfl) T.zl PySem.boot_len (pa_cons (pv 0) pa_nil)) pe_int))
        (pw_or1 (pt_not (pt_val (pe_callB (cr_all rfl) (by rfl) T.za b_all (pa_cons (pe_cs (i := 0) (j := 1) inD (pe_lc (own := [("sign", 1)]) (g := gName 1) (tt := tYes) rfl scR.nd (pi_str (pv 0)) (blkOk_by (N := ["word", "sign"]) (sc := defScope sReadInt) (by decide +kernel)) (fun _ _ _ _ _ => pg_name (i := 1) scR.nd rfl (Or.inl rfl)) (fun _ _ _ _ _ => pts_nil)
          (fun _ _ _ _ _ => pe_cmpR op_in_sign (pv 1) (pe_glob rfl gD (v := .str DIG) ⟨_, rfl⟩) (by rfl))) (fun c σ H Q hc hq => ⟨_, hc, c, DIG, rfl, rfl, hq⟩)) pa_nil))))))) (pss_one (ps_ret pe_non)) pss_nil)
      (pss_cons (ps_if (PW.pt (pw_and (pt_cmpR op_eq (pe_callB call_len_str (by rfl) T.zl PySem.boot_len (pa_cons (pv 0) pa_nil)) pe_int (nomark _)) (pw_and1 (pt_cmpR op_eq (pe_ix ix_str (pv 0) pe_int (fun _ _ => rfl)) pe_str (nomark _))))) (pss_one (ps_ret pe_non)) pss_nil)
      (pss_one (ps_ret (pe_callTy call_int_str (by rfl) T.zn b_int (pa_cons (pv 0) pa_nil))))), ?_⟩
    have hq : ∀ (H' : Hp) (v : V), Same H H' → optI (readInt z) = v → Q v H' := fun H' b s e => by rw [← e]; exact q H' s
    refine ⟨.str z, rfl, z, rfl, hz, _, _, rfl, rfl, _, rfl, ?_⟩
    refine ite2 (fun h1 => ?_) (fun h1 => ⟨_, rfl, iteT (hq H _ (Same.refl H) ?_)⟩)
    · refine ⟨_, _, rfl, rfl, _, rfl, ?_⟩
      have n1 : decide (1 ≤ z.length) = true := decide_eq_true (by have := of_decide_eq_true h1; omega)
      by_cases h2 : (z.length : Int) ≤ 2
      · rw [decide_eq_true h2]
        have n2 : decide (z.length ≤ 2) = true := decide_eq_true (by omega)
        refine iteF ?_
        refine ⟨z, rfl, hz, (by show 1 < 2; decide), fun D H1 s1 e1 => ?_⟩
        refine ⟨D, _, rfl, SqL.of e1, _, rfl, ?_⟩
        have ea : (z.cps.toList.map inD).all id = z.cps.toList.all inD := by rw [List.all_map]; rfl
        rw [ea]
        by_cases h3 : z.cps.toList.all inD = true
        · rw [h3]
          refine iteF ?_
          refine ⟨.str z, rfl, z, rfl, hz, rfl, _, rfl, ?_⟩
          obtain ⟨m, em, m0, m9⟩ := int_some (of_decide_eq_true n1) (of_decide_eq_true n2) h3
          have h640 : z.length ≤ 640 := by omega
          have base0 : readInt z = if z.length == 2 && z.cps.toList[0]? == some 48 then none else PySem.intText? z := by
            unfold readInt
            rw [n1, n2, h3]
            rfl
          refine ite2 (fun h4 => ?_) (fun h4 => iteF ?_)
          · obtain ⟨c, hc⟩ : ∃ c, z.cps.toList[0]? = some c := ⟨_, List.getElem?_eq_getElem (by rw [len_cps]; have := of_decide_eq_true n1; omega)⟩
            have l2 : z.length = 2 := by
              have := V.int.inj (of_decide_eq_true h4)
              omega
            refine ⟨.str z, rfl, z, 0, c, rfl, rfl, hz, atI_nat (j := 0) hc, rfl, _, rfl, ?_⟩
            rw [zero_sign]
            by_cases h5 : c = 48
            · rw [decide_eq_true h5]
              refine iteT (hq H1 _ s1 ?_)
              rw [base0, l2, hc, h5]
              rfl
            · rw [decide_eq_false h5]
              refine iteF ⟨.str z, rfl, z, m, rfl, em, h640, hq H1 _ s1 ?_⟩
              have e5 : (some c == some 48) = false := by simpa using h5
              rw [base0, l2, hc, e5, em]
              rfl
          · refine ⟨.str z, rfl, z, m, rfl, em, h640, hq H1 _ s1 ?_⟩
            have e6 : (z.length == 2) = false := by
              have : ¬ z.length = 2 := fun e => h4 (decide_eq_true (by rw [e]; rfl))
              simpa using this
            rw [base0, e6, em]
            rfl
        · have h3' : z.cps.toList.all inD = false := by simpa using h3
          rw [h3']
          refine iteT (hq H1 _ s1 ?_)
          unfold readInt
          rw [h3']
          simp [optI]
      · rw [decide_eq_false h2]
        refine iteT (hq H _ (Same.refl H) ?_)
        have n2 : decide (z.length ≤ 2) = false := decide_eq_false (by omega)
        unfold readInt
        rw [n2]
        simp [optI]
    · have n1 : decide (1 ≤ z.length) = false := decide_eq_false (by
        have h1' : ¬ (1 : Int) ≤ (z.length : Int) := fun e => h1 (decide_eq_true e)
        omega)
      unfold readInt
      rw [n1]
      simp [optI]
end
end TX

set_option Elab.async false
set_option linter.all false
set_option maxRecDepth 100000
set_option maxHeartbeats 4000000
/-! zip of a list and a tuple. -/
namespace FS
open PySem PySem.Spec PyProof.Rows L2
def ItM (K : PySem.W.Frag) (a b : Addr) : It :=
  ⟨fun i H => ∃ (xs ys : List V) (x y : V), SqL K H a xs ∧ SqT K H b ys ∧ xs[i]? = some x ∧ ys[i]? = some y,
    fun i H v H' => ∃ T x y, v = .ref T ∧ H T = none ∧ H' = upd H T (.tup [x, y]) ∧ (∀ xs, SqL K H a xs → xs[i]? = some x) ∧ ∀ ys, SqT K H b ys → ys[i]? = some y,
    fun i H => ∃ xs ys : List V, SqL K H a xs ∧ SqT K H b ys ∧ (i = xs.length ∨ i = ys.length) ∧ i ≤ xs.length ∧ i ≤ ys.length⟩
theorem turn_zipM {P : Program} {w : World} {K : PySem.W.Frag} {elts : List Expr} {kk : Nat} {tpos : Pos} {a b z TI TO i1 i2 : Addr} (S : ZipSep2 z TI TO i1 i2 [i1, a] [i2, b]) (na : a ≠ i1) (nb : b ≠ i2) :
    Turn P w K (.Tuple elts kk tpos) (ItM K a b) [z, TI, TO, i1, i2] z (fun i h => IsZip h z TI TO .none ∧ IsTupOf2 h TI (.ref i1) (.ref i2) ∧ (∃ x y, IsTupOf2 h TO x y) ∧ h.IsListIter i1 a i ∧ h.IsTupleIter i2 b i) where
  mem := by simp
  obj := fun i h ⟨q1, q2, ⟨x, y, q3⟩, ⟨o1, e1, _, d1⟩, ⟨o2, e2, _, d2⟩⟩ c hc => by
    have hcs : c = z ∨ c = TI ∨ c = TO ∨ c = i1 ∨ c = i2 := by simpa using hc
    rcases hcs with rfl | rfl | rfl | rfl | rfl
    · exact ⟨_, q1, fun v q => nomatch q⟩
    · exact ⟨_, q2, fun v q => nomatch q⟩
    · exact ⟨_, q3, fun v q => nomatch q⟩
    · exact ⟨o1, e1, fun v q => by rw [d1] at q; cases q⟩
    · exact ⟨o2, e2, fun v q => by rw [d2] at q; cases q⟩
  keep := fun i h h' ⟨q1, q2, ⟨x, y, q3⟩, q4, q5⟩ k => ⟨k z (by simp) _ q1, k TI (by simp) _ q2, ⟨x, y, k TO (by simp) _ q3⟩, q4.at fun o q => k i1 (by simp) o q, q5.at fun o q => k i2 (by simp) o q⟩
  item := by
    intro X eP ew eK hc i pins s σ H E I hf ⟨q1, q2, ⟨x0, y0, q3⟩, q4, q5⟩ ⟨xs, ys, x, y, hqx, hqy, hx, hy⟩
    subst eP ew eK
    obtain ⟨its, rv, p1, _⟩ := I.list hqx
    obtain ⟨its2, rv2, p2, _⟩ := I.tuple hqy
    obtain ⟨u, hu, ru⟩ := rv.get hx
    obtain ⟨u2, hu2, ru2⟩ := rv2.get hy
    have hh : X.A.in1.handled = none := I.ok.hd hc
    have hu' : its.toArray[i]? = some u := by simpa using hu
    have hu2' : its2.toArray[i]? = some u2 := by simpa using hu2
    have l1 : i < its.toArray.size := (Array.getElem?_eq_some_iff.mp hu').1
    have l2 : i < its2.toArray.size := (Array.getElem?_eq_some_iff.mp hu2').1
    have hzl : z < s.heap.objs.size := Heap.lt_size q1
    refine wpAny_pyNext_zipD2_item S (.list hh i1 a na its.toArray) (.tuple hh i2 b nb its2.toArray) q1 q2 q3 ⟨q4, p1.isList⟩ ⟨q5, p2⟩ l1 l2 fun v1 v2 h' tk e1 e2 z1 t1 st1 st2 tt hsz hk => ?_
    obtain rfl : v1 = u := Option.some.inj (e1.symm.trans hu')
    obtain rfl : v2 = u2 := Option.some.inj (e2.symm.trans hu2')
    refine ⟨_, rfl, wpAny_letOwnedTupleGo_zip (s := { s with heap := h', toks := tk }) z1 fun h'' z'' sb => ?_⟩
    have tt2 : IsTupOf2 h'' s.heap.objs.size v1 v2 := (sb.2 _ (Nat.ne_of_gt hzl)).trans tt
    have new : ObjOk X.prog X.w (upd H s.heap.objs.size (.tup [x, y])) h'' s.heap.objs.size (.tup [x, y]) := ⟨by show 2 ≤ sizeLine; decide, [v1, v2], .cons ru (.cons ru2 .nil), ⟨_, tt2, rfl, _, rfl⟩⟩
    have kk : ∀ c o, c ∉ [z, TI, TO, i1, i2] → s.heap.get? c = some o → h''.get? c = some o := fun c o hb q => (sb.2 c (fun q' => hb (by simp [q']))).trans (hk c o (fun q' => hb (by simp [q'])) (fun q' => hb (by simp [q'])) (fun q' => hb (by simp [q'])) (fun q' => hb (by simp [q'])) q)
    have I1 : Inv X pins σ (upd H s.heap.objs.size (.tup [x, y])) { s with heap := h'', toks := tk } := I.turnedNew (t' := tk) (ch := [z, TI, TO, i1, i2]) kk hf (Nat.le_refl _) new
    have zi1 := S.zi1
    have zi2 := S.zi2
    refine ⟨.ref s.heap.objs.size, _, I1, rfl, ⟨_, x, y, rfl, I.hok.fresh (Nat.le_refl _), rfl, fun l hl => by rw [I.list_inj hl hqx]; exact hx, fun l hl => by rw [I.tuple_inj hl hqy]; exact hy⟩, ⟨z'', ?_, ⟨v1, v2, ?_⟩, ?_, ?_⟩, fun c hcm => ?_⟩
    · exact (sb.2 _ S.TIz).trans (hk _ _ S.TIz S.TITO S.TIi1 S.TIi2 q2)
    · exact (sb.2 _ S.TOz).trans t1
    · exact st1.1.at fun o q => (sb.2 _ zi1.symm).trans q
    · exact st2.1.at fun o q => (sb.2 _ zi2.symm).trans q
    · have hlt : c < s.heap.objs.size := by
        have hcs : c = z ∨ c = TI ∨ c = TO ∨ c = i1 ∨ c = i2 := by simpa using hcm
        rcases hcs with rfl | rfl | rfl | rfl | rfl
        · exact hzl
        · exact Heap.lt_size q2
        · exact Heap.lt_size q3
        · obtain ⟨_, e9, _⟩ := q4; exact Heap.lt_size e9
        · obtain ⟨_, e9, _⟩ := q5; exact Heap.lt_size e9
      rw [upd_ne (Nat.ne_of_lt hlt)]
      exact (hf c hcm).1
  done := by
    intro X eP ew eK hc i pins s σ H E I hf ⟨q1, q2, ⟨x0, y0, q3⟩, q4, q5⟩ ⟨xs, ys, hqx, hqy, hend, h1, h2⟩
    subst eP ew eK
    obtain ⟨its, rv, p1, _⟩ := I.list hqx
    obtain ⟨its2, rv2, p2, _⟩ := I.tuple hqy
    have hh : X.A.in1.handled = none := I.ok.hd hc
    have n1 := rv.length
    have n2 := rv2.length
    have z1 : its.toArray.size = its.length := List.size_toArray
    have z2 : its2.toArray.size = its2.length := List.size_toArray
    refine wpAny_pyNext_zipD2_end S (.list hh i1 a na its.toArray) (.tuple hh i2 b nb its2.toArray) q1 q2 q3 ⟨q4, p1.isList⟩ ⟨q5, p2⟩ (by omega) (by omega) (by omega) fun h' tk hk => ⟨rfl, ?_⟩
    exact I.turnedL (t' := tk) (ch := [z, TI, TO, i1, i2]) (fun c o hb q => hk c o (fun q' => hb (by simp [q'])) (fun q' => hb (by simp [q'])) (fun q' => hb (by simp [q'])) (fun q' => hb (by simp [q'])) q) hf
  self := fun A i s Q E st h => wpAny_pyIter_zip st.1 h
def iZipM (K : PySem.W.Frag) (ta : TA) : TI := fun σ H R => ta σ H fun vs H1 => ∃ a b xs ys, vs = [.ref a, .ref b] ∧ SqL K H1 a xs ∧ SqT K H1 b ys ∧ R (ItM K a b) H1
theorem pi_zipM {X : Cx} {e e2 : Expr} {ta : TA} {p pos tpos : Pos} {elts : List Expr} {kk : Nat} (hg : Gl X "zip") (hm : X.mg "zip" = none) (ha : PA X [e, e2] ta)
    (hs : starEach [e, e2] X.env = (false, eval e X.env) :: starEach [e2] X.env := by rfl) (hpl : (backTo pos (starEach [e2] X.env)).any (·.1) = false := by rfl) :
    PI X (.Tuple elts kk tpos) (.Call (.Name "zip" p) [e, e2] [] pos) (iZipM X.K ta) := by
  refine ⟨fun pins s0 σ H R I h => ?_⟩
  refine Call_ (ld_blt I hg hm PyProof.Rows.boot_zip (PyProof.Rows.callWith_type1 (thn (ha.run pos pins s0 σ H _ I h) fun us s1 ⟨vs, H1, I1, r1, a, b, xs, ys, ex, hqx, hqy, q⟩ => ?_) hs hpl))
  subst ex
  obtain ⟨u1, u2, rfl, ra, rb⟩ := vals2 r1
  cases (show u1 = Value.ref a from ra)
  cases (show u2 = Value.ref b from rb)
  obtain ⟨its, rv, p1, _⟩ := I1.list hqx
  obtain ⟨its2, rv2, p2, _⟩ := I1.tuple hqy
  have la : a < s1.heap.objs.size := p1.lt
  have lb : b < s1.heap.objs.size := by obtain ⟨o, ho, _⟩ := id p2; exact Heap.lt_size ho
  refine zip_begins2 (begins_list a its.toArray) (begins_tuple b its2.toArray) p1.isList p2 fun h' hz hTI hTO e1 e2 hsz hk => wpAny_pyIter_zip hz ?_
  have I2 : Inv X pins σ H1 { s1 with heap := h' } := I1.kept (t' := s1.toks) hk
  have S : ZipSep2 (s1.heap.objs.size + 4) (s1.heap.objs.size + 2) (s1.heap.objs.size + 3) s1.heap.objs.size (s1.heap.objs.size + 1) [s1.heap.objs.size, a] [s1.heap.objs.size + 1, b] := zip_sep2 (fp1 := [a]) (fp2 := [b]) (by simpa using la) (by simpa using lb)
  refine ⟨s1.heap.objs.size + 4, [s1.heap.objs.size + 4, s1.heap.objs.size + 2, s1.heap.objs.size + 3, s1.heap.objs.size, s1.heap.objs.size + 1], _, _, H1, rfl, I2, turn_zipM S (Nat.ne_of_lt la) (Nat.ne_of_lt (Nat.lt_succ_of_lt lb)), ⟨hz, hTI, ⟨_, _, hTO⟩, ⟨_, e1, rfl, rfl⟩, ⟨_, e2, rfl, rfl⟩⟩, fun c hcm => ?_, q⟩
  have hle : s1.heap.objs.size ≤ c := by
    have hcs : c = s1.heap.objs.size + 4 ∨ c = s1.heap.objs.size + 2 ∨ c = s1.heap.objs.size + 3 ∨ c = s1.heap.objs.size ∨ c = s1.heap.objs.size + 1 := by simpa using hcm
    rcases hcs with rfl | rfl | rfl | rfl | rfl <;> first | exact Nat.le_refl _ | exact Nat.le_add_right _ _
  exact I1.fpOk hle (I1.hok.fresh hle)
theorem walk_zipM {K : PySem.W.Frag} {a b : Addr} {xs ys : List V} {n : Nat} (hn : n = min xs.length ys.length) : Walk (ItM K a b) n (fun H => SqL K H a xs ∧ SqT K H b ys) (YPair (fun i => xs[i]?) (fun i => ys[i]?)) := by
  subst hn
  refine ⟨fun i H hi ⟨q1, q2⟩ => ⟨xs, ys, xs[i]'(by omega), ys[i]'(by omega), q1, q2, List.getElem?_eq_getElem _, List.getElem?_eq_getElem _⟩, fun H ⟨q1, q2⟩ => ⟨xs, ys, q1, q2, by omega, by omega, by omega⟩, fun i H v H' _ ⟨q1, q2⟩ ⟨T, x, y, e, n, eH, f1, f2⟩ => ⟨T, x, y, e, n, eH, f1 _ q1, f2 _ q2⟩⟩
end FS

set_option Elab.async false
set_option linter.all false
set_option maxRecDepth 100000
set_option maxHeartbeats 4000000
namespace TX
open PySem PySem.Spec PyProof.Rows L2 L2.FK FS
section
variable {X : Cx} {o e : Expr} {apos cpos : Pos} {td ty : TE}
/-- D.get(k), D a written dict with text keys -/
def tKGet (K : PySem.W.Frag) (d : Addr) (td ty : TE) : TE := fun σ H Q => td σ H fun x H1 => x = .ref d ∧ ty σ H1 fun y H2 => ∃ (z : Str) (r : Option Value) (v : V), y = .str z ∧ PySem.W.nsIn K d z = some r ∧ RelV v (r.getD .none) ∧ Q v H2
theorem pe_kget {d : Addr} {es : Array DictEntry} {n : Nat} (D : KDict X.K X.w d es n) (ho : PE X o td) (he : PE X e ty) (m : M1 X o "get" apos e cpos) : PE X (.Call (.Attribute o "get" apos) [e] [] cpos) (tKGet X.K d td ty) := by
  refine ⟨fun pins s0 σ H Q I h => ?_⟩
  refine wpAny_Call_method m.base m.few m.line PySem.F.plainAttrs_dict PySem.F.slot_dict_get PySem.F.type_dict_get (thn (ho.run pins s0 σ H _ I h) fun u s1 ⟨x, H1, I1, rx, ex, q1⟩ => ?_)
  subst ex
  obtain rfl : u = Value.ref d := rx
  refine ⟨kd_type D I1, fun a ea => ⟨_, I1.kIn _ _ (by cases ea; exact D.at_), rfl⟩, ?_⟩
  rw [m.trees]
  refine Calls.callWith_builtin rfl (Calls.evalArgs_plain (Calls.spliced_cons (thn (he.run pins s1 σ H1 _ I1 q1) fun iv s2 ⟨y, H2, I2, ry, z, r, v, ey, en, rv, q2⟩ => Calls.spliced_nil ?_)))
  subst ey
  obtain ⟨t, rfl⟩ := ry
  have hm := PySem.W.mapOf_K (prog := X.prog) (w := X.w) I2.kIn D.at_ D.lit
  refine call_meetsIn PySem.F.slot_dict_get hm.typeIs PySem.F.entry_dict_get (PySem.F.args_dict_get_2 _ _) (meets_dict_get (strKind X.prog X.w) d (strKind_is X.prog X.w z t) D.low) ⟨_, hm, ?_⟩
  rw [PySem.W.find_K D.at_ en]
  exact ⟨v, H2, I2.tok _, rv, q2⟩
end
abbrev sReadPart : Stmt := top (TX.o + 2)
abbrev sReadParts : Stmt := top (TX.o + 3)
abbrev sReadIns : Stmt := top (TX.o + 4)
abbrev sReadDat : Stmt := top (TX.o + 5)
abbrev sSplit : Stmt := top (TX.o + 7)
/-! ### the mirror -/
def readPart (z sort : Str) : V :=
  if sort = "name" then (if isName z then .str z else .non) else if sort = "reg" then (if REGS.contains z then .str z else .non) else optI (readInt z)
section
variable {P : Program} {w : World} {K : PySem.W.Frag} {mg : Str → Option Value} {base : Heap} {aO aR dF : Addr} {es : Array DictEntry} {nF : Nat} {tF : Str → Addr}
theorem inV_strs (z : Str) (l : List Str) : inV (.str z) (l.map V.str) = l.contains z := by
  induction l with
  | nil => rfl
  | cons x r ih =>
    show (eqV (.str x) (.str z) || inV (.str z) (r.map V.str)) = _
    rw [ih, List.contains_cons]
    congr 1
    show (x == z) = (z == x)
    exact Bool.beq_comm
def spReadPart : Sp := fun vs H Q _ => ∃ z sort : Str, vs = [.str z, .str sort] ∧ z.length ≤ sizeLine ∧ ∀ H', Same H H' → Q (readPart z sort) H'
theorem scRP : FnScope ["word", "sort"] ["word", "sort"] (defScope sReadPart) := ⟨rfl, rfl, rfl, by decide +kernel, rfl, by decide +kernel, by decide +kernel⟩
theorem str_eq (a b : Str) : decide ((V.str a) = (V.str b)) = decide (a = b) := by
  by_cases h : a = b
  · subst h
    simp
  · rw [decide_eq_false h]
    exact decide_eq_false fun e => h (V.str.inj e)
theorem ok_readPart {f fN fR : Addr} {fd fdN fdR : FuncData} (F : Fun K "read_part" "read_part" sReadPart f fd) (T : TT K w mg aO aR dF es nF tF)
    (GN : FnOk P w K mg base CX0 1 fN fdN ["value"] (spIsName K)) (bN : Binds K fdN ["value"] []) (gN : mg "is_name" = some (.ref fN)) (kN : PySem.W.keepIn K (.ref fN) = true)
    (GR : FnOk P w K mg base CX0 1 fR fdR ["word"] spReadInt) (bR : Binds K fdR ["word"] []) (gR : mg "read_integer" = some (.ref fR)) (kR : PySem.W.keepIn K (.ref fR) = true) : FnOk P w K mg base CX0 2 f fd ["word", "sort"] spReadPart := by
  refine F.ok scRP (fun vs H Q E h => ?_) (fun cdv A outer s H vs Q E hr h => ?_)
  · obtain ⟨z, sort, rfl, _⟩ := h
    rfl
  · obtain ⟨z, sort, rfl, hz, q⟩ := h
    refine ⟨_, pss_cons (ps_if (pt_cmpR op_eq (pv 1) pe_str (nomark _)) (pss_one (ps_ret (pe_ifExp (pt_val (pe_call GN hr rfl gN kN bN .nil pass0 (pa_cons (pv 0) pa_nil))) (pv 0) pe_non))) pss_nil)
      (pss_cons (ps_if (pt_cmpR op_eq (pv 1) pe_str (nomark _)) (pss_one (ps_ret (pe_ifExp (pt_cmpR op_in_seq (pv 0) (pe_glob rfl T.gR (v := .ref aR) rfl) (by rfl)) (pv 0) pe_non))) pss_nil)
      (pss_one (ps_ret (pe_call GR hr rfl gR kR bR .nil pass0 (pa_cons (pv 0) pa_nil))))), ?_⟩
    have hq : ∀ (H' : Hp) (v : V), Same H H' → readPart z sort = v → Q v H' := fun H' b s e => by rw [← e]; exact q H' s
    refine ⟨.str sort, rfl, rfl, _, rfl, ?_⟩
    rw [str_eq]
    refine ite2 (fun h1 => ?_) (fun h1 => ?_)
    · have e1 : sort = "name" := of_decide_eq_true h1
      refine ⟨.str z, rfl, .str z, rfl, .inl ⟨z, rfl, hz, fun H1 s1 => ⟨_, rfl, ?_⟩⟩⟩
      refine ite2 (fun h2 => ⟨.str z, rfl, hq H1 _ s1 ?_⟩) (fun h2 => hq H1 _ s1 ?_)
      · unfold readPart
        rw [if_pos e1, if_pos h2]
      · unfold readPart
        rw [if_pos e1, if_neg h2]
    · have e1 : ¬ sort = "name" := fun e => h1 (decide_eq_true e)
      refine ⟨.str sort, rfl, rfl, _, rfl, ?_⟩
      rw [str_eq]
      refine ite2 (fun h2 => ?_) (fun h2 => ?_)
      · have e2 : sort = "reg" := of_decide_eq_true h2
        refine ⟨.str z, rfl, aR, _, rfl, .inr (T.kR.sq H), rfl, by decide, _, rfl, ?_⟩
        rw [show (if false = true then !inV (V.str z) (REGS.map V.str) else inV (V.str z) (REGS.map V.str)) = REGS.contains z from inV_strs z REGS]
        refine ite2 (fun h3 => ⟨.str z, rfl, hq H _ (Same.refl H) ?_⟩) (fun h3 => hq H _ (Same.refl H) ?_)
        · unfold readPart
          rw [if_neg e1, if_pos e2, if_pos h3]
        · unfold readPart
          rw [if_neg e1, if_pos e2, if_neg h3]
      · have e2 : ¬ sort = "reg" := fun e => h2 (decide_eq_true e)
        refine ⟨.str z, rfl, z, rfl, hz, fun H1 s1 => hq H1 _ s1 ?_⟩
        unfold readPart
        rw [if_neg e1, if_neg e2]
end
end TX

set_option Elab.async false
set_option linter.all false
set_option maxRecDepth 100000
set_option maxHeartbeats 4000000
namespace TX
open PySem PySem.Spec PyProof.Rows L2 L2.FK FS
/-! ### a comprehension over a list: each item's value by a relation that a growing heap keeps -/
section
variable {X : Cx} {e : Expr} {K : PySem.W.Frag}
/-- the value is no object, or one that was not there -/
def Nw (v : V) (H : Hp) : Prop := ∀ p, v = .ref p → H p = none
def tCG (K : PySem.W.Frag) (R : V → V → Hp → Prop) (Dm : V → Hp → Prop) (tl : TE) (j : Nat) : TE := fun σ H Q => tl σ H fun x H1 => ∃ (l : Addr) (xs : List V), x = .ref l ∧ SqL K H1 l xs ∧ xs.length ≤ sizeLine ∧ j < σ.length ∧ (∀ x ∈ xs, Dm x H1) ∧
  ∀ D H' vs, Same H1 H' → H1 D = none → H' D = some (.lst vs) → Paired (fun x v => R x v H') xs vs → Q (.ref D) H'
theorem paired_mono {R R' : V → V → Prop} (hR : ∀ x v, R x v → R' x v) : ∀ {xs vs : List V}, Paired R xs vs → Paired R' xs vs
  | _, _, .nil => .nil
  | _, _, .cons h t => .cons (hR _ _ h) (paired_mono hR t)
theorem paired_snoc {R : V → V → Prop} {x v : V} : ∀ {xs vs : List V}, Paired R xs vs → R x v → Paired R (xs ++ [x]) (vs ++ [v])
  | _, _, .nil, h => .cons h .nil
  | _, _, .cons a t, h => .cons a (paired_snoc t h)
theorem pe_cg {R : V → V → Hp → Prop} {Dm : V → Hp → Prop} {tl te : TE} {j : Nat} (h : PE X e (tLc (iList K tl) (gName j) tYes te [j])) (hR : ∀ x v H H', Same H H' → R x v H → R x v H') (hU : ∀ x v H D o, (∀ p, v = .ref p → p ≠ D) → R x v H → R x v (upd H D o))
    (hD : ∀ x H H', Same H H' → Dm x H → Dm x H')
    (hm : ∀ σ H (Q Q' : VK), (∀ v H, Q v H → Q' v H) → tl σ H Q → tl σ H Q') (hte : ∀ (x : V) (σ : L2.St) (H : Hp) (Q : VK), σ[j]? = some (some x) → Dm x H → (∀ v H', Same H H' → Nw v H → R x v H' → Q v H') → te σ H Q) : PE X e (tCG K R Dm tl j) := by
  refine pe_imp h fun σ H Q q => hm σ H _ _ (fun x H1 ⟨l, xs, ex, hl, hz, hj, hdm, q⟩ => ⟨l, ex, ⟨_, hl⟩, fun D hD0 => ?_⟩) q
  refine lc_list (xs := xs) (fun i H' => Same H1 H' ∧ ∃ vs, H' D = some (.lst vs) ∧ Paired (fun x v => R x v H' ∧ ∀ p, v = .ref p → p ≠ D) (xs.take i) vs) ⟨same_new hD0, [], upd_same, .nil⟩ (fun _ _ _ h => h.1.seq hl) (fun i x H2 hx ⟨s2, vs, hv, pv⟩ => ?_) (fun H2 ⟨s2, vs, hv, pv⟩ => ?_)
  · have hmem : x ∈ xs := List.mem_of_getElem? hx
    have hi : i < xs.length := (List.getElem?_eq_some_iff.mp hx).1
    refine ⟨by simp [wipe], hte x _ H2 _ (by simp [wipe, hj]) (hD _ _ _ s2 (hdm x hmem)) fun v H3 s3 nv rv => ⟨vs, s3 _ _ hv, ?_, fun b o eb => ?_, vs ++ [v], upd_same, ?_⟩⟩
    · have := pv.length
      rw [← this, List.length_take]
      omega
    · rw [upd_ne (ne_of_none eb hD0)]
      exact s3 _ _ (s2 _ _ eb)
    · rw [List.take_add_one, hx]
      refine paired_snoc (paired_mono (fun x v hh => ⟨hU _ _ _ _ _ hh.2 (hR _ _ _ _ s3 hh.1), hh.2⟩) pv) ?_
      have nd : ∀ p, v = .ref p → p ≠ D := fun p ep => (ne_of_none hv (nv p ep)).symm
      exact ⟨hU _ _ _ _ _ nd rv, nd⟩
  · rw [List.take_length] at pv
    exact q D H2 vs s2 hD0 hv (paired_mono (fun _ _ hh => hh.1) pv)
end
/-! ### the mirror -/
def readParts (ws : List Str) (form : List Str) : Option (List V) := match ws with
  | [] => none
  | w :: rest => if (w :: rest).length ≠ form.length + 1 then none else if (List.zipWith readPart rest form).any (fun v => decide (v = .non)) then none else some (.str w :: List.zipWith readPart rest form)
def readIns : List Str → Option (List V)
  | [] => none
  | w :: rest => match formOf w with
    | none => none
    | some form => if (w :: rest).length ≠ form.length + 1 then none else if (List.zipWith readPart rest form).any (fun v => decide (v = .non)) then none else some (.str w :: List.zipWith readPart rest form)
theorem readIns_none {w : Str} {rest : List Str} (h : formOf w = none) : readIns (w :: rest) = none := by simp only [readIns, h]
theorem readIns_some {w : Str} {rest : List Str} {form : List Str} (h : formOf w = some form) : readIns (w :: rest) = if (w :: rest).length ≠ form.length + 1 then none else if (List.zipWith readPart rest form).any (fun v => decide (v = V.non)) then none else some (V.str w :: List.zipWith readPart rest form) := by simp only [readIns, h]
section
variable {P : Program} {w : World} {K : PySem.W.Frag} {mg : Str → Option Value} {base : Heap} {aO aR dF : Addr} {es : Array DictEntry} {nF : Nat} {tF : Str → Addr}
def Wd (z : Str) : Prop := z.length ≤ sizeLine
theorem form3 {w1 : Str} {form : List Str} (hf : formOf w1 = some form) : form.length ≤ 3 := by
  have key : ∀ p ∈ FORM, p.2.length ≤ 3 := by decide
  exact key _ (PySem.mem_of_lookup hf)
def spReadParts (K : PySem.W.Frag) : Sp := fun vs H Q _ => ∃ (a b : Addr) (ws form : List Str), vs = [.ref a, .ref b] ∧ SqL K H a (ws.map V.str) ∧ (∀ H', Same H H' → SqT K H' b (form.map V.str)) ∧ ws ≠ [] ∧ (∀ z ∈ ws, Wd z) ∧ form.length ≤ 3 ∧
  (readParts ws form = none → ∀ H', Same H H' → Q .non H') ∧ (∀ xs, readParts ws form = some xs → ∀ H' p, Same H H' → H p = none → H' p = some (.tup xs) → Q (.ref p) H')
theorem scRPs : FnScope ["words", "form", "parts", "word", "sort", "part"] ["words", "form"] (defScope sReadParts) := ⟨rfl, rfl, rfl, by decide +kernel, rfl, by decide +kernel, by decide +kernel⟩
theorem ok_readParts {f fP : Addr} {fd fdP : FuncData} (F : Fun K "read_parts" "read_parts" sReadParts f fd) (T : TT K w mg aO aR dF es nF tF)
    (GP : FnOk P w K mg base CX0 2 fP fdP ["word", "sort"] spReadPart) (bP : Binds K fdP ["word", "sort"] []) (gP : mg "read_part" = some (.ref fP)) (kP : PySem.W.keepIn K (.ref fP) = true) : FnOk P w K mg base CX0 3 f fd ["words", "form"] (spReadParts K) := by
  refine F.ok scRPs (fun vs H Q E h => ?_) (fun cdv A outer s H vs Q E hr h => ?_)
  · obtain ⟨a, b, ws, form, rfl, _⟩ := h
    rfl
  · obtain ⟨a, b, ws, form, rfl, hS, hT, hne, hw, hf3, q0, q1⟩ := h
    refine ⟨_, pss_cons (ps_if (pt_cmpR op_ne (pe_callB call_len_seq (by rfl) T.zl PySem.boot_len (pa_cons (pv 0) pa_nil)) (pe_op op_add (pe_callB call_len_seq (by rfl) T.zl PySem.boot_len (pa_cons (pv 1) pa_nil)) pe_int) (nomark _)) (pss_one (ps_ret pe_non)) pss_nil)
      (pss_cons (ps_setLc (i := 2) (own := [("word", 3), ("sort", 4)]) (g := gTup K 2 (gCons (gName 3) (gCons (gName 4) gNil))) (tt := tYes) rfl scRPs.nd rfl rfl (sw_true rfl rfl rfl (by decide +kernel)) (pi_zipM (by rfl) T.zz (pa_cons (pe_slice sl_listS (pv 0) (po_some pe_int) po_none) (pa_cons (pv 1) pa_nil))) (blkOk_by (N := ["words", "form", "parts", "word", "sort", "part"]) (sc := defScope sReadParts) (by decide +kernel))
          (fun _ _ _ _ _ => pg_tup rfl (pgs_cons (pg_name (i := 3) scRPs.nd rfl (Or.inl rfl)) (pgs_cons (pg_name (i := 4) scRPs.nd rfl (Or.inl rfl)) pgs_nil))) (fun _ _ _ _ _ => pts_nil) (fun _ _ _ _ _ => pe_call GP hr rfl gP kP bP .nil pass0 (pa_cons (pv 3) (pa_cons (pv 4) pa_nil))))
      (pss_cons (ps_if (pt_val (pe_callB (cr_any rfl) (by rfl) T.zy b_any (pa_cons (pe_cg (K := K) (R := fun x v _ => v = .bl (decide (x = .non))) (Dm := fun _ _ => True) (j := 5) (pe_lc (own := [("part", 5)]) (g := gName 5) (tt := tYes) rfl scRPs.nd (pi_list (pv 2)) (blkOk_by (N := ["words", "form", "parts", "word", "sort", "part"]) (sc := defScope sReadParts) (by decide +kernel)) (fun _ _ _ _ _ => pg_name (i := 5) scRPs.nd rfl (Or.inl rfl)) (fun _ _ _ _ _ => pts_nil)
          (fun _ _ _ _ _ => pe_cmp (pc_isN (pv 5)))) (fun _ _ _ _ _ h => h) (fun _ _ _ _ _ _ h => h) (fun _ _ _ _ h => h) (fun σ H Q Q' k ⟨v, h1, h2⟩ => ⟨v, h1, k _ _ h2⟩) (fun x σ H Q hx _ hq => ⟨x, hx, hq _ H (Same.refl H) (fun _ ep => nomatch ep) rfl⟩)) pa_nil))) (pss_one (ps_ret pe_non)) pss_nil)
      (pss_one (ps_ret (pe_tupS (pa_cons (pe_ix ix_list (pv 0) pe_int (fun _ _ => rfl)) (StX.pa_star (pv 2) pa_nil))))))), ?_⟩
    obtain ⟨w1, rest, rfl⟩ : ∃ w1 rest, ws = w1 :: rest := by
      cases ws with
      | nil => exact absurd rfl hne
      | cons w1 rest => exact ⟨w1, rest, rfl⟩
    have h0 : ((w1 :: rest).map V.str)[0]? = some (.str w1) := rfl
    refine ⟨.ref a, rfl, a, _, rfl, .inl hS, .ref b, rfl, b, _, rfl, .inr (hT H (Same.refl H)), _, _, rfl, rfl, rfl, _, rfl, ?_⟩
    have step : readParts (w1 :: rest) form = if (w1 :: rest).length ≠ form.length + 1 then none else if (List.zipWith readPart rest form).any (fun v => decide (v = V.non)) then none else some (V.str w1 :: List.zipWith readPart rest form) := rfl
    by_cases hl : (w1 :: rest).length = form.length + 1
    · rw [if_neg (by simpa using hl)] at step
      have hl' : decide (V.int (((w1 :: rest).map V.str).length : Nat) = V.int (((form.map V.str).length : Nat) + 1)) = true := decide_eq_true (by rw [List.length_map, List.length_map, hl]; rfl)
      rw [hl']
      refine iteF ?_
      have hrl : rest.length = form.length := by simpa using hl
      have ec : cutV ((w1 :: rest).map V.str) (some 1) none = rest.map V.str := by
        unfold cutV
        rw [show HT.sIx ((w1 :: rest).map V.str).length 0 (some 1) = min 1 ((w1 :: rest).map V.str).length from HT.sIx_nat _ 0 1, HT.sIx_none]
        rw [show min 1 ((w1 :: rest).map V.str).length = 1 by rw [List.length_map, List.length_cons]; omega]
        show (List.take (((w1 :: rest).map V.str).length - 1) (rest.map V.str)) = _
        exact List.take_of_length_le (by rw [List.length_map, List.length_map, List.length_cons]; omega)
      refine ⟨.ref a, rfl, 1, rfl, a, _, rfl, hS, fun p1 H1 s1 n1 e1 => ⟨.ref b, rfl, p1, b, _, _, rfl, SqL.of e1, hT H1 s1, fun D hD => ?_⟩⟩
      rw [ec] at e1
      have hlen : rest.length ≤ 3 := by omega
      have zl : (List.zipWith readPart rest form).length = rest.length := by rw [List.length_zipWith]; omega
      refine lc_it (walk_zipM (xs := rest.map V.str) (ys := form.map V.str) rfl) (fun i H' => Same H1 H' ∧ H' D = some (.lst ((List.zipWith readPart rest form).take i))) ⟨same_new hD, upd_same⟩ (fun _ _ _ h => ⟨h.1.seq (SqL.of e1), hT _ (s1.trans h.1)⟩) (fun i v H2 H3 hi ⟨s2, e2⟩ ⟨T1, x, y, ev, nT, eH, hx, hy⟩ => ?_) (fun H2 ⟨s2, e2⟩ => ?_)
      · subst ev
        subst eH
        have hi' : i < rest.length := by
          rw [List.length_map, List.length_map] at hi
          omega
        have hx' : x = .str (rest[i]'hi') := by
          have hx : (rest.map V.str)[i]? = some x := hx
          rw [List.getElem?_map, List.getElem?_eq_getElem hi'] at hx
          exact (Option.some.inj hx).symm
        have hif : i < form.length := by omega
        have hy' : y = .str (form[i]'hif) := by
          have hy : (form.map V.str)[i]? = some y := hy
          rw [List.getElem?_map, List.getElem?_eq_getElem hif] at hy
          exact (Option.some.inj hy).symm
        subst hx' hy'
        have nTD : D ≠ T1 := ne_of_none e2 nT
        refine ⟨T1, [.str (rest[i]'hi'), .str (form[i]'hif)], rfl, .inl (.inl upd_same), rfl, _, [.str (form[i]'hif)], rfl, _, [], rfl, rfl, rfl, ?_⟩
        refine ⟨.str (rest[i]'hi'), rfl, .str (form[i]'hif), rfl, rest[i]'hi', form[i]'hif, rfl, hw _ (List.mem_cons_of_mem _ (List.getElem_mem _)), fun H4 s4 => ⟨_, s4 _ _ (by rw [upd_ne nTD]; exact e2), ?_, fun b o eb => ?_, ?_⟩⟩
        · rw [List.length_take, zl]
          exact small1000 (by omega)
        · rw [upd_ne (ne_of_none eb hD)]
          exact s4 _ _ ((same_new nT) _ _ (s2 _ _ eb))
        · rw [upd_same, List.take_add_one, List.getElem?_zipWith, List.getElem?_eq_getElem hi', List.getElem?_eq_getElem hif]
          rfl
      · have e3 : H2 D = some (.lst (List.zipWith readPart rest form)) := by
          rw [e2, List.take_of_length_le (by rw [List.length_map, List.length_map, zl]; omega)]
        have t2 : Same H H2 := s1.trans s2
        have nD0 : H D = none := s1.free hD
        refine ⟨.ref D, rfl, D, _, rfl, SqL.of e3, ?_, ?_, fun _ _ => trivial, fun D2 H3 vs s3 n3 e4 pv => ?_⟩
        · rw [zl]
          exact Nat.le_of_lt (small1000 (by omega))
        · show 5 < 6
          decide
        have evs : vs = ((List.zipWith readPart rest form).map fun x => decide (x = V.non)).map V.bl := by
          have key : ∀ {xs vs : List V}, Paired (fun x v => v = V.bl (decide (x = V.non))) xs vs → vs = (xs.map fun x => decide (x = V.non)).map V.bl := by
            intro xs vs p
            induction p with
            | nil => rfl
            | cons h _ ih => rw [h, ih]; rfl
          exact key pv
        rw [evs] at e4
        refine ⟨D2, _, rfl, SqL.of e4, _, rfl, ?_⟩
        have ea : (((List.zipWith readPart rest form).map fun x => decide (x = V.non)).any id) = (List.zipWith readPart rest form).any (fun v => decide (v = V.non)) := by
          rw [List.any_map]
          rfl
        rw [ea]
        by_cases hn : (List.zipWith readPart rest form).any (fun v => decide (v = V.non)) = true
        · rw [hn]
          refine iteT (q0 ?_ H3 (t2.trans s3))
          rw [step, if_pos hn]
        · have hn' : (List.zipWith readPart rest form).any (fun v => decide (v = V.non)) = false := Bool.eq_false_iff.mpr hn
          rw [hn']
          refine iteF ?_
          have hS3 := (t2.trans s3).seq hS
          refine ⟨.ref a, rfl, a, _, 0, _, rfl, rfl, hS3, atI_nat (j := 0) h0, .ref D, rfl, D, _, rfl, .inr (SqL.of (s3 _ _ e3)), ?_, fun p H4 s4 n4 e5 => ?_⟩
          · show (V.str w1 :: (List.zipWith readPart rest form ++ [])).length ≤ 1000
            rw [List.length_cons, List.append_nil, zl]
            omega
          · refine q1 (.str w1 :: List.zipWith readPart rest form) ?_ H4 p ((t2.trans s3).trans s4) ((t2.trans s3).free n4) ?_
            · rw [step, hn']
              rfl
            · rw [e5]
              show some (HO.tup (V.str w1 :: (List.zipWith readPart rest form ++ []))) = _
              rw [List.append_nil]
    · have hl' : decide (V.int (((w1 :: rest).map V.str).length : Nat) = V.int (((form.map V.str).length : Nat) + 1)) = false := decide_eq_false fun e => hl (by
        have e2 := V.int.inj e
        rw [List.length_map, List.length_map] at e2
        omega)
      rw [hl']
      refine iteT (q0 ?_ H (Same.refl H))
      rw [step, if_pos hl]
def spReadIns (K : PySem.W.Frag) : Sp := fun vs H Q _ => ∃ (a : Addr) (ws : List Str), vs = [.ref a] ∧ SqL K H a (ws.map V.str) ∧ ws ≠ [] ∧ (∀ z ∈ ws, Wd z) ∧
  (readIns ws = none → ∀ H', Same H H' → Q .non H') ∧ (∀ xs, readIns ws = some xs → ∀ H' p, Same H H' → H p = none → H' p = some (.tup xs) → Q (.ref p) H')
theorem scRI : FnScope ["words"] ["words"] (defScope sReadIns) := ⟨rfl, rfl, rfl, by decide +kernel, rfl, by decide +kernel, by decide +kernel⟩
theorem ok_readIns {f fP : Addr} {fd fdP : FuncData} (F : Fun K "read_instruction" "read_instruction" sReadIns f fd) (T : TT K w mg aO aR dF es nF tF)
    (GP : FnOk P w K mg base CX0 3 fP fdP ["words", "form"] (spReadParts K)) (bP : Binds K fdP ["words", "form"] []) (gP : mg "read_parts" = some (.ref fP)) (kP : PySem.W.keepIn K (.ref fP) = true) : FnOk P w K mg base CX0 4 f fd ["words"] (spReadIns K) := by
  refine F.ok scRI (fun vs H Q E h => ?_) (fun cdv A outer s H vs Q E hr h => ?_)
  · obtain ⟨a, ws, rfl, _⟩ := h
    rfl
  · obtain ⟨a, ws, rfl, hS, hne, hw, q0, q1⟩ := h
    refine ⟨_, pss_cons (ps_if (pt_cmpR (op_notIn_kd T.kF) (pe_ix ix_list (pv 0) pe_int (fun _ _ => rfl)) (pe_glob rfl T.gF (v := .ref dF) rfl) (by rfl)) (pss_one (ps_ret pe_non)) pss_nil)
      (pss_one (ps_ret (pe_call GP hr rfl gP kP bP .nil pass0 (pa_cons (pv 0) (pa_cons (pe_ix ix_kdict (pe_glob rfl T.gF (v := .ref dF) rfl) (pe_ix ix_list (pv 0) pe_int (fun _ _ => rfl)) (fun _ _ => rfl)) pa_nil))))), ?_⟩
    obtain ⟨w1, rest, rfl⟩ : ∃ w1 rest, ws = w1 :: rest := by
      cases ws with
      | nil => exact absurd rfl hne
      | cons w1 rest => exact ⟨w1, rest, rfl⟩
    have h0 : ((w1 :: rest).map V.str)[0]? = some (.str w1) := rfl
    cases hf : formOf w1 with
    | none =>
      have lf := T.lF w1
      rw [hf] at lf
      refine ⟨.ref a, rfl, a, _, 0, _, rfl, rfl, hS, atI_nat (j := 0) h0, w1, none, rfl, rfl, lf, _, rfl, ?_⟩
      exact iteT (q0 (readIns_none hf) H (Same.refl H))
    | some form =>
      have lf := T.lF w1
      rw [hf] at lf
      have kt := T.tF w1 form hf
      refine ⟨.ref a, rfl, a, _, 0, _, rfl, rfl, hS, atI_nat (j := 0) h0, w1, some (.ref (tF w1)), rfl, rfl, lf, _, rfl, ?_⟩
      refine iteF ⟨.ref a, rfl, .ref a, rfl, a, _, 0, _, rfl, rfl, hS, atI_nat (j := 0) h0, dF, w1, .ref (tF w1), rfl, rfl, ⟨es, nF, .ref (tF w1), T.kF.at_, T.kF.lit, lf, rfl⟩, ?_⟩
      have e : readParts (w1 :: rest) form = readIns (w1 :: rest) := by
        rw [readIns_some hf]
        rfl
      exact ⟨a, tF w1, w1 :: rest, form, rfl, hS, fun H' _ => kt.sq H', hne, hw, form3 hf, fun h => q0 (e ▸ h), fun xs h => q1 xs (e ▸ h)⟩
end
end TX

set_option Elab.async false
set_option linter.all false
set_option maxRecDepth 100000
set_option maxHeartbeats 4000000
namespace TX
open PySem PySem.Spec PyProof.Rows L2 L2.FK FS
section
variable {X : Cx}
def rSplitS : V → List V → Hp → VK → Prop := fun x xs H Q => ∃ a b : Str, x = .str a ∧ xs = [.str b] ∧ (b.length == 0) = false ∧ a.length + 2 ≤ sizeLine ∧ ∀ p H', Same H H' → H p = none → H' p = some (.lst ((Txt.split a b).map V.str)) → Q (.ref p) H'
theorem mt_splitS : MtR X "str.split" rSplitS := fun pins s σ H x xs v us Q I rx rxs ⟨a, b, e1, e2, h1, h2, q⟩ =>
  mt_split pins s σ H x xs v us Q I rx rxs ⟨a, b, e1, e2, h1, h2, fun p np => q p _ (same_new np) np upd_same⟩
end
abbrev sTarget : Stmt := top (TX.o + 6)
/-! ### the mirror -/
def readDat : List Str → V
  | [z] => if isName z then .str z else optI (readInt z)
  | _ => .non
def rowsOf (t : Str) : List (List Str) := if t = "" then [] else (Txt.split t "\n").map fun r => Txt.split r " "
def Fits (t : Str) : Prop := t.length + 2 ≤ sizeLine ∧ (∀ r ∈ Txt.split t "\n", r.length + 2 ≤ sizeLine)
def targetOf (row : List V) : V := match row with
  | .str w :: _ => (match formOf w with
    | some form => if form.contains "to" then row.getLast?.getD .non else .non
    | none => .non)
  | _ => .non
section
variable {P : Program} {w : World} {K : PySem.W.Frag} {mg : Str → Option Value} {base : Heap} {aO aR dF : Addr} {es : Array DictEntry} {nF : Nat} {tF : Str → Addr}
/-! ### read_datum -/
def spReadDat (K : PySem.W.Frag) : Sp := fun vs H Q _ => ∃ (a : Addr) (ws : List Str), vs = [.ref a] ∧ SqL K H a (ws.map V.str) ∧ (∀ z ∈ ws, Wd z) ∧ ∀ H', Same H H' → Q (readDat ws) H'
theorem scRD : FnScope ["words"] ["words"] (defScope sReadDat) := ⟨rfl, rfl, rfl, by decide +kernel, rfl, by decide +kernel, by decide +kernel⟩
theorem ok_readDat {f fN fR : Addr} {fd fdN fdR : FuncData} (F : Fun K "read_datum" "read_datum" sReadDat f fd) (T : TT K w mg aO aR dF es nF tF)
    (GN : FnOk P w K mg base CX0 1 fN fdN ["value"] (spIsName K)) (bN : Binds K fdN ["value"] []) (gN : mg "is_name" = some (.ref fN)) (kN : PySem.W.keepIn K (.ref fN) = true)
    (GR : FnOk P w K mg base CX0 1 fR fdR ["word"] spReadInt) (bR : Binds K fdR ["word"] []) (gR : mg "read_integer" = some (.ref fR)) (kR : PySem.W.keepIn K (.ref fR) = true) : FnOk P w K mg base CX0 2 f fd ["words"] (spReadDat K) := by
  refine F.ok scRD (fun vs H Q E h => ?_) (fun cdv A outer s H vs Q E hr h => ?_)
  · obtain ⟨a, ws, rfl, _⟩ := h
    rfl
  · obtain ⟨a, ws, rfl, hS, hw, q⟩ := h
    refine ⟨_, pss_cons (ps_if (pt_cmpR op_ne (pe_callB call_len_seq (by rfl) T.zl PySem.boot_len (pa_cons (pv 0) pa_nil)) pe_int (nomark _)) (pss_one (ps_ret pe_non)) pss_nil)
      (pss_one (ps_ret (pe_ifExp (pt_val (pe_call GN hr rfl gN kN bN .nil pass0 (pa_cons (pe_ix ix_list (pv 0) pe_int (fun _ _ => rfl)) pa_nil))) (pe_ix ix_list (pv 0) pe_int (fun _ _ => rfl)) (pe_call GR hr rfl gR kR bR .nil pass0 (pa_cons (pe_ix ix_list (pv 0) pe_int (fun _ _ => rfl)) pa_nil))))), ?_⟩
    refine ⟨.ref a, rfl, a, _, rfl, .inl hS, rfl, _, rfl, ?_⟩
    by_cases hl : ws.length = 1
    · obtain ⟨z, rfl⟩ := List.length_eq_one_iff.mp hl
      refine iteNS (by rfl) ?_
      have hz : Wd z := hw z (by simp)
      have at0 : ∀ H', SqL K H' a ([z].map V.str) → atI ([z].map V.str) 0 = some (.str z) := fun _ _ => rfl
      refine ⟨.ref a, rfl, a, _, 0, _, rfl, rfl, hS, rfl, .str z, rfl, .inl ⟨z, rfl, hz, fun H1 s1 => ⟨_, rfl, ?_⟩⟩⟩
      refine ite2 (fun h => ?_) (fun h => ?_)
      · refine ⟨.ref a, rfl, a, _, 0, _, rfl, rfl, s1.seq hS, rfl, ?_⟩
        have e : readDat [z] = .str z := by
          show (if isName z = true then V.str z else optI (readInt z)) = _
          rw [if_pos h]
        have hq := q H1 s1
        rw [e] at hq
        exact hq
      · refine ⟨.ref a, rfl, a, _, 0, _, rfl, rfl, s1.seq hS, rfl, z, rfl, hz, fun H2 s2 => ?_⟩
        have e : readDat [z] = optI (readInt z) := by
          show (if isName z = true then V.str z else optI (readInt z)) = _
          rw [if_neg h]
        have hq := q H2 (s1.trans s2)
        rw [e] at hq
        exact hq
    · have hl' : decide (V.int (((ws.map V.str).length : Nat) : Int) = V.int 1) = false := decide_eq_false fun e => hl (by
        have e2 := V.int.inj e
        rw [List.length_map] at e2
        omega)
      rw [hl']
      refine iteT ?_
      have e : readDat ws = .non := by
        match ws, hl with
        | [], _ => rfl
        | [_], h => exact absurd rfl h
        | _ :: _ :: _, _ => rfl
      have hq := q H (Same.refl H)
      rw [e] at hq
      exact hq
/-! ### split_rows -/
def RowsAt (H : Hp) (vs : List V) (rs : List (List Str)) : Prop := Paired (fun (ws : List Str) v => ∃ q, v = .ref q ∧ H q = some (.lst (ws.map V.str))) rs vs
def spSplit : Sp := fun vs H Q _ => ∃ t : Str, vs = [.str t] ∧ Fits t ∧ ∀ H' p rs, Same H H' → H p = none → H' p = some (.lst rs) → RowsAt H' rs (rowsOf t) → Q (.ref p) H'
theorem scSp : FnScope ["text", "row"] ["text"] (defScope sSplit) := ⟨rfl, rfl, rfl, by decide +kernel, rfl, by decide +kernel, by decide +kernel⟩
theorem ok_split {f : Addr} {fd : FuncData} {k : Nat} (F : Fun K "split_rows" "split_rows" sSplit f fd) : FnOk P w K mg base CX0 (k + 1) f fd ["text"] spSplit := by
  refine F.ok scSp (fun vs H Q E h => ?_) (fun cdv A outer s H vs Q E hr h => ?_)
  · obtain ⟨t, rfl, _⟩ := h
    rfl
  · obtain ⟨t, rfl, ⟨hf1, hf2⟩, q⟩ := h
    refine ⟨_, pss_cons (ps_if (pt_cmpR op_eq (pv 0) pe_str (nomark _)) (pss_one (ps_ret (pe_lstS pa_nil))) pss_nil)
      (pss_one (ps_ret (pe_cg (K := K) (R := fun x v H => ∃ z q, x = .str z ∧ v = .ref q ∧ H q = some (.lst ((Txt.split z " ").map V.str))) (Dm := fun x _ => ∃ z, x = .str z ∧ z.length + 2 ≤ sizeLine) (tl := tBM K "str" rSplitS (tVar 0) (tCons (tC (.str "\n")) tNil)) (te := tBM K "str" rSplitS (tVar 1) (tCons (tC (.str " ")) tNil)) (j := 1)
        (pe_lc (own := [("row", 1)]) (g := gName 1) (tt := tYes) rfl scSp.nd (pi_list (pe_bm PySem.F.plainAttrs_str PySem.F.slot_str_split PySem.F.type_str_split mt_splitS (pv 0) (pa_cons pe_str pa_nil))) (blkOk_by (N := ["text", "row"]) (sc := defScope sSplit) (by decide +kernel)) (fun _ _ _ _ _ => pg_name (i := 1) scSp.nd rfl (Or.inl rfl)) (fun _ _ _ _ _ => pts_nil)
          (fun _ _ _ _ _ => pe_bm PySem.F.plainAttrs_str PySem.F.slot_str_split PySem.F.type_str_split mt_splitS (pv 1) (pa_cons pe_str pa_nil)))
        (fun x v H H' s ⟨z, q, e1, e2, h⟩ => ⟨z, q, e1, e2, s _ _ h⟩) (fun x v H D o hp ⟨z, q, e1, e2, h⟩ => ⟨z, q, e1, e2, by rw [upd_ne (hp q e2)]; exact h⟩) (fun _ _ _ _ h => h)
        (fun σ H Q Q' k h => by
          obtain ⟨v, h1, h2, a, b, e1, e2, h3, h4, hq⟩ := h
          exact ⟨v, h1, h2, a, b, e1, e2, h3, h4, fun p H' s n h => k _ _ (hq p H' s n h)⟩)
        (fun x σ H Q hx h hq => by
          obtain ⟨z, ex, hz⟩ := h
          exact ⟨x, hx, by subst ex; rfl, z, " ", ex, rfl, rfl, hz, fun p H' s n h => hq _ H' s (fun p' ep => by cases ep; exact n) ⟨z, p, ex, rfl, h⟩⟩)))), ?_⟩
    refine ⟨.str t, rfl, rfl, _, rfl, ?_⟩
    rw [str_eq]
    refine ite2 (fun h => ?_) (fun h => ?_)
    · have e : t = "" := of_decide_eq_true h
      refine ⟨by simp, fun p H1 s1 n1 e1 => q H1 p [] s1 n1 e1 ?_⟩
      unfold rowsOf
      rw [if_pos e]
      exact .nil
    · have e : ¬ t = "" := fun e => h (decide_eq_true e)
      refine ⟨.str t, rfl, rfl, t, "\n", rfl, rfl, rfl, hf1, fun p H1 s1 n1 e1 => ⟨p, _, rfl, SqL.of e1, ?_, (by show 1 < 2; decide), fun x hx => ?_, fun D H2 vs s2 n2 e2 pv => ?_⟩⟩
      · rw [List.length_map]
        have := PyProof.Rows.split_le t "\n"
        omega
      · obtain ⟨z, hz, rfl⟩ := List.mem_map.mp hx
        exact ⟨z, rfl, hf2 z hz⟩
      · refine q H2 D vs (s1.trans s2) (s1.free n2) e2 ?_
        unfold rowsOf
        rw [if_neg e]
        have key : ∀ (zs : List Str) (vs : List V), Paired (fun x v => ∃ z q, x = V.str z ∧ v = V.ref q ∧ H2 q = some (.lst ((Txt.split z " ").map V.str))) (zs.map V.str) vs → RowsAt H2 vs (zs.map fun r => Txt.split r " ") := by
          intro zs
          induction zs with
          | nil => intro vs p; cases p; exact .nil
          | cons z r ih =>
            intro vs p
            cases p with
            | cons h t =>
              obtain ⟨z', q, e1, e2, e3⟩ := h
              cases e1
              exact .cons ⟨q, e2, e3⟩ (ih _ t)
        exact key _ _ pv
/-! ### target_of -/
def spTarget (K : PySem.W.Frag) : Sp := fun vs H Q _ => ∃ (a : Addr) (row : List V) (w1 : Str) (r : List V) (form : List Str), vs = [.ref a] ∧ SqT K H a row ∧ row = .str w1 :: r ∧ formOf w1 = some form ∧ Q (targetOf row) H
theorem scTa : FnScope ["row"] ["row"] (defScope sTarget) := ⟨rfl, rfl, rfl, by decide +kernel, rfl, by decide +kernel, by decide +kernel⟩
theorem ok_target {f : Addr} {fd : FuncData} {k : Nat} (F : Fun K "target_of" "target_of" sTarget f fd) (T : TT K w mg aO aR dF es nF tF) : FnOk P w K mg base CX0 (k + 1) f fd ["row"] (spTarget K) := by
  refine F.ok scTa (fun vs H Q E h => ?_) (fun cdv A outer s H vs Q E hr h => ?_)
  · obtain ⟨a, row, w1, r, form, rfl, _⟩ := h
    rfl
  · obtain ⟨a, row, w1, r, form, rfl, hS, rfl, hf, q⟩ := h
    refine ⟨_, pss_one (ps_ret (pe_ifExp (pt_cmpR op_in_seq pe_str (pe_ix ix_kdict (pe_glob rfl T.gF (v := .ref dF) rfl) (pe_ix ix_tup (pv 0) pe_int (fun _ _ => rfl)) (fun _ _ => rfl)) (by rfl)) (pe_ix ix_tup (pv 0) (pe_un un_neg pe_int) (fun _ _ => rfl)) pe_non)), ?_⟩
    have lf := T.lF w1
    rw [hf] at lf
    have kt := T.tF w1 form hf
    refine ⟨.ref a, rfl, a, _, 0, _, rfl, rfl, hS, atI_nat (j := 0) rfl, dF, w1, .ref (tF w1), rfl, rfl, ⟨es, nF, .ref (tF w1), T.kF.at_, T.kF.lit, lf, rfl⟩, tF w1, _, rfl, .inr (kt.sq H), rfl, ?_, _, rfl, ?_⟩
    · rw [List.all_map]
      simp [flatV]
    rw [show (if false = true then !inV (V.str "to") (form.map V.str) else inV (V.str "to") (form.map V.str)) = form.contains "to" from inV_strs "to" form]
    refine ite2 (fun h => ?_) (fun h => ?_)
    · obtain ⟨v, hv⟩ : ∃ v, (V.str w1 :: r)[(V.str w1 :: r).length - 1]? = some v := ⟨_, List.getElem?_eq_getElem (by simp)⟩
      have ea : atI (V.str w1 :: r) (-1) = some v := by
        unfold atI ixN
        rw [if_neg (by decide), if_pos (by rw [List.length_cons]; omega)]
        show (V.str w1 :: r)[(-1 + ((V.str w1 :: r).length : Int)).toNat]? = some v
        rw [← hv]
        congr 1
        omega
      refine ⟨.ref a, rfl, _, rfl, a, _, -1, v, rfl, rfl, hS, ea, ?_⟩
      have e : targetOf (V.str w1 :: r) = v := by
        simp only [targetOf, hf]
        show (if form.contains "to" = true then (V.str w1 :: r).getLast?.getD .non else .non) = v
        rw [if_pos h, List.getLast?_eq_getElem?, hv]
        rfl
      rw [e] at q
      exact q
    · have e : targetOf (V.str w1 :: r) = .non := by
        simp only [targetOf, hf]
        show (if form.contains "to" = true then (V.str w1 :: r).getLast?.getD .non else .non) = .non
        rw [if_neg h]
      rw [e] at q
      exact q
end
end TX

set_option Elab.async false
set_option linter.all false
set_option maxRecDepth 100000
set_option maxHeartbeats 4000000
/-! tuple(d), d a dict: a new tuple of its keys. -/
namespace FS
open PySem PySem.Calls PySem.Spec PyProof.Rows L2
section
variable {prog : Program} {w : World} {A : Around} {E : Value → Shared → Prop} {s : Shared} {T : String} {r d : Addr} {n : Nat} {P : Nat → Value → Prop} {OK : Heap → Prop}
theorem code_tupS {Q₁ : Value → Shared → Prop} (K : PySem.W.KdlSrc prog w T r d n P OK) (hh : A.handled = none) (hok : OK s.heap) (hn : n ≤ sizeLine)
    (h : ∀ (h' : Heap) (tk : Nat) (acc : Array Value), (∀ b o, s.heap.get? b = some o → h'.get? b = some o) → ItemsOf P acc n → Q₁ (.ref h'.objs.size) { s with heap := h'.push { cls := .type "tuple", data := .seq acc }, toks := tk }) :
    codeAny (model prog w) A (.call (.builtin "tuple.__new__") ⟨[.type "tuple", .ref r], []⟩) (wants Q₁ E) s := by
  refine codeAny_of_tree ?_
  show wpAny _ A.in1 (do checkBuiltinCall "tuple.__new__" ⟨[.type "tuple", .ref r], []⟩; again (.builtin "tuple.__new__" ⟨[.type "tuple", .ref r], []⟩)) _ _ s
  refine wpAny_bind (wpAny_of_eq (F.newCall_tuple_1 _) (wpAny_pure ⟨plainId_quiet F.plain_tuple_new _, codeAny_builtin F.entry_tuple_new ?_⟩))
  rw [Around.under_plainId F.plain_tuple_new _]
  have hsub := sub_tuple_self
  have hinit := init_tuple_lookup
  have hmh := madeHere_tuple
  have hTI : s.TypeIs (.ref r) T := K.type s hok
  have hnt := K.notTuple
  have hnl := K.notList
  have hh1 : A.in1.handled = none := hh
  wp_walk using wpAny_typeOf hTI, PySem.W.kdu_collect (A := A.in1) K hh1 hok hn
  intro h' tk acc hk hacc
  show wpAny _ _ (Builtin.Tuple.tupleExact acc.toList.toArray >>= fun v => ret v) _ _ _
  unfold Builtin.Tuple.tupleExact
  refine wpAny_bind (wpAny_newObj_type ?_ (by show acc.toList.toArray.size ≤ sizeLine; simp only [Array.toArray_toList]; rw [hacc.1]; exact hn))
  refine wpAny_pure ?_
  have e : acc.toList.toArray = acc := by simp
  rw [e]
  exact h h' tk acc hk hacc
theorem call_tupS {Q : Value → Shared → Prop} (K : PySem.W.KdlSrc prog w T r d n P OK) (hh : A.handled = none) (hok : OK s.heap) (hn : n ≤ sizeLine)
    (h : ∀ (h' : Heap) (tk : Nat) (acc : Array Value), (∀ b o, s.heap.get? b = some o → h'.get? b = some o) → ItemsOf P acc n → Q (.ref h'.objs.size) { s with heap := h'.push { cls := .type "tuple", data := .seq acc }, toks := tk }) :
    wpAny (model prog w) A (call (.type "tuple") [.ref r]) Q E s := by
  refine callType_codes (Q₁ := fun obj s₁ => s₁.TypeIs obj "tuple" ∧ Q obj s₁) F.called_tuple (F.typeCall_tuple_1 _) F.entry_object_init
    (code_tupS (A := A.in1) K hh hok hn fun h' tk acc hk hacc => ⟨⟨_, Heap.get?_push_size _ rfl, rfl⟩, h h' tk acc hk hacc⟩) fun obj s₁ h₁ => ?_
  exact ⟨h₁.1, F.args_object_init_2 obj _, object_init_meets F.called_tuple.init.lookup F.called_tuple.made (by decide) prog w A.in1 _ s₁ ⟨h₁.1, rfl, h₁.2⟩⟩
end
def rTupD : List V → Hp → VK → Prop := fun xs H Q => ∃ p kvs, xs = [.ref p] ∧ H p = some (.dK kvs) ∧ ∀ q, H q = none → Q (.ref q) (upd H q (.tup (kvs.map fun kv => kV kv.1)))
theorem call_tuple_dK {X : Cx} (hc : X.calm = true) : CallR X (.type "tuple") rTupD := by
  intro pins s σ H xs us Q I r h
  obtain ⟨p, kvs, e, hk, q⟩ := h
  subst e
  obtain ⟨u, eu, rx⟩ := vals1 r
  subst eu
  obtain rfl : u = Value.ref p := rx
  obtain ⟨z, lo, vs, rk, hd⟩ := (show ObjOk X.prog X.w H s.heap p (.dK kvs) from I.hok p _ hk)
  obtain ⟨ep, hat⟩ := hd.dictAt
  have hl : kvs.length = vs.length := Paired.length rk
  refine call_tupS (PySem.W.kdl_dict (knd := mixKind X.prog X.w) (kvs := vs) (ep := ep) lo) (I.ok.hd hc) hat (by rw [← hl]; exact z) fun h' tk acc' hkeep hacc => ?_
  have I2 : Inv X pins σ H { s with heap := h', toks := tk } := I.kept hkeep
  refine ⟨.ref h'.objs.size, upd H h'.objs.size (.tup (kvs.map fun kv => kV kv.1)), I2.laid (t' := tk) (fun c o e => Heap.get?_push_of_some _ e) (Nat.le_refl _) (show ObjOk X.prog X.w _ _ _ (.tup (kvs.map fun kv => kV kv.1)) from ⟨?_, acc'.toList, ?_, ?_⟩), rfl, q _ (I2.hok.fresh (Nat.le_refl _))⟩
  · rw [List.length_map]; exact z
  · have el : acc'.toList.length = acc'.size := by simp
    refine vals_of_at (by rw [List.length_map, el, hacc.1, hl]) fun j x w h1 h2 => ?_
    obtain ⟨k, y, hky, hi⟩ := hacc.2 j w (by rw [← Array.getElem?_toList]; exact h2)
    have e1 : (kvs.map (·.1))[j]? = some k := by
      rw [KV.keys rk, List.getElem?_map, hky] <;> rfl
    have e2 : (kvs.map fun kv => kV kv.1)[j]? = some (kV k) := by
      have e3 : (kvs.map fun kv => kV kv.1) = (kvs.map (·.1)).map kV := by rw [List.map_map] <;> rfl
      rw [e3, List.getElem?_map, e1] <;> rfl
    rw [e2] at h1
    cases h1
    exact keyIs_rel hi
  · rw [Array.toArray_toList]; exact IsTup.new _ _
end FS

set_option Elab.async false
set_option linter.all false
set_option maxRecDepth 100000
set_option maxHeartbeats 4000000
/-! o.f as one of several targets. -/
namespace FS
open PySem PySem.Calls PySem.Spec PyProof.Rows L2
section
variable {X : Cx} {o : Expr} {to : TE} {f : Str} {pos : Pos}
def gFld (K : PySem.W.Frag) (to : TE) (f : Str) : TG := fun v σ H Q => to σ H fun x H2 => ∃ a C dx fs, x = .ref a ∧ H2 a = some (.ins C dx fs) ∧ Cls K C ∧ NoAttr K C f ∧ fs.length < 1000 ∧ Q σ (upd H2 a (.ins C dx (putF f v fs)))
theorem pg_fld (ho : PE X o to) : PG X (.Attribute o f pos) (gFld X.K to f) := by
  refine ⟨fun pins s σ H v u Q I r h => ?_⟩
  rw [PySem.assign_Attribute]
  refine wpAny_bind (wpAny_holding (thn (ho.run pins s σ H _ I h) fun ov s1 ⟨x, H1, I1, r1, a, C, dx, fs, ex, ea, c, n, l, q⟩ => ?_))
  subst ex
  obtain rfl : ov = Value.ref a := r1
  refine wpAny_bind (wpAny_standAt (wpAny_bind (wpAny_holding (setattr_ok (I1.tok _) ea c n l r fun s3 I3 => ?_))))
  exact wpAny_release ⟨σ, _, I3, q⟩
end
def f3 (a b c : V) : List (Str × V) := [("pieces", a), ("kind", b), ("rows", c)]
def f2 (a b : V) : List (Str × V) := [("pieces", a), ("kind", b)]
theorem l1 (a b c : V) : (f3 a b c).lookup ("kind" : Str) = some b := by rfl
theorem l2 (a b c : V) : putF "kind" c (f3 a b c) = f3 a c c := by rfl
theorem l3 (a b c : V) : putF "rows" c (f2 a b) = f3 a b c := by rfl
end FS

set_option Elab.async false
set_option linter.all false
set_option maxRecDepth 100000
set_option maxHeartbeats 4000000
/-! A text, row by row: the mirror; what a draft looks like in memory. -/
namespace TX
open PySem PySem.Spec PyProof.Rows L2 L2.FK FS
/-! ### the mirror -/
/-- a row of a piece -/
inductive MR where
  | ins (xs : List V)
  | dat (v : V)
structure MP where
  name : Str
  kind : Str
  rows : List MR
/-- the piece that is open -/
structure OP where
  kind : Str
  name : Str
  start : Int
  rows : List MR
structure ST where
  ps : List MP
  ex : List Str
  al : List (Str × Str)
  nm : List Str
  op : Option OP
def st0 : ST := ⟨[], [], [], [], none⟩
def takeName (z : Str) (st : ST) : Option ST := if isName z && !st.nm.contains z then some { st with nm := st.nm ++ [z] } else none
def exportsGo : List Str → ST → Option ST
  | [], st => some st
  | z :: r, st => if isName z && !st.ex.contains z then exportsGo r { st with ex := st.ex ++ [z] } else none
def takeExports (ws : List Str) (st : ST) : Option ST := if ws.length = 0 then none else exportsGo ws st
def takeAlias (ws : List Str) (st : ST) : Option ST := match ws with
  | [x, y] => if isName y then (takeName x st).map fun s => { s with al := s.al ++ [(x, y)] } else none
  | _ => none
def openPiece (num : Int) (ws : List Str) (st : ST) : Option ST := match ws with
  | [k, n] => if st.ps.length = 12 then none else (takeName n st).map fun s => { s with op := some ⟨k, n, num + 1, []⟩ }
  | _ => none
def takeBetween (num : Int) (ws : List Str) (st : ST) : Option ST := match ws with
  | [] => none
  | w :: r => if w = "export" then takeExports r st else if w = "alias" then takeAlias r st else if w = "func" ∨ w = "data" then openPiece num (w :: r) st else none
/-- the row that words make in a piece of this kind -/
def rowOf (k : Str) (ws : List Str) : Option MR := if k = "func" then (readIns ws).map .ins else if readDat ws = .non then none else some (.dat (readDat ws))
def takeWithin (ws : List Str) (op : OP) (st : ST) : Option ST := match rowOf op.kind ws with
  | none => none
  | some r => if op.rows.length = 16 then none else some { st with op := some { op with rows := op.rows ++ [r] } }
def tooGreat (n : Nat) : MR → Bool
  | .ins xs => (match targetOf xs with | .int t => decide ((n : Int) < t) | _ => false)
  | .dat _ => false
/-- the first row whose target is too great -/
def badFrom (n : Nat) : List MR → Int → Option Int
  | [], _ => none
  | r :: rs, i => if tooGreat n r then some i else badFrom n rs (i + 1)
def closePiece (op : OP) (st : ST) : Except Int ST :=
  match (if op.kind = "func" then badFrom op.rows.length op.rows 0 else none) with
  | some i => .error (op.start + i)
  | none => .ok { st with ps := st.ps ++ [⟨op.name, op.kind, op.rows⟩], op := none }
def takeRow (num : Int) (ws : List Str) (st : ST) : Except Int ST := match st.op with
  | none => (match takeBetween num ws st with | some s => .ok s | none => .error num)
  | some op => if ws = [("end" : Str)] then closePiece op st else (match takeWithin ws op st with | some s => .ok s | none => .error num)
def parseRows : List (List Str) → Int → ST → Except Int ST
  | [], _, st => .ok st
  | ws :: r, i, st => match takeRow i ws st with
    | .error e => .error e
    | .ok st' => parseRows r (i + 1) st'
def parseT (t : Str) : Except Int ST := match parseRows (rowsOf t) 0 st0 with
  | .error e => .error e
  | .ok st => if st.op.isSome then .error ((rowsOf t).length : Int) else .ok st
/-! ### in memory -/
/-- tuples and the instances of the class at CP stay as they are -/
def Fix (CP : Addr) (H H' : Hp) : Prop := (∀ q xs, H q = some (.tup xs) → H' q = some (.tup xs)) ∧ ∀ q dx fs, H q = some (.ins CP dx fs) → H' q = some (.ins CP dx fs)
theorem Fix.of {CP : Addr} {H H' : Hp} (s : Same H H') : Fix CP H H' := ⟨fun q xs e => s _ _ e, fun q dx fs e => s _ _ e⟩
theorem Fix.trans {CP : Addr} {H H1 H2 : Hp} (a : Fix CP H H1) (b : Fix CP H1 H2) : Fix CP H H2 := ⟨fun q xs e => b.1 _ _ (a.1 _ _ e), fun q dx fs e => b.2 _ _ _ (a.2 _ _ _ e)⟩
theorem Fix.lst {CP a : Addr} {H : Hp} {xs : List V} {o : HO} (h : H a = some (.lst xs)) : Fix CP H (upd H a o) :=
  ⟨fun q ys e => by rw [upd_ne (ne_of e h (by intro z; cases z))]; exact e, fun q dx fs e => by rw [upd_ne (ne_of e h (by intro z; cases z))]; exact e⟩
theorem Fix.dK {CP a : Addr} {H : Hp} {xs : List (Key × V)} {o : HO} (h : H a = some (.dK xs)) : Fix CP H (upd H a o) :=
  ⟨fun q ys e => by rw [upd_ne (ne_of e h (by intro z; cases z))]; exact e, fun q dx fs e => by rw [upd_ne (ne_of e h (by intro z; cases z))]; exact e⟩
theorem Fix.ins {CP C a dx : Addr} {H : Hp} {fs : List (Str × V)} {o : HO} (h : H a = some (.ins C dx fs)) (ne : CP ≠ C) : Fix CP H (upd H a o) :=
  ⟨fun q ys e => by rw [upd_ne (ne_of e h (by intro z; cases z))]; exact e, fun q dx fs e => by rw [upd_ne (ne_of e h (by intro z; cases z; exact ne rfl))]; exact e⟩
def RowAt (H : Hp) : MR → V → Prop
  | .ins xs, v => ∃ q, v = .ref q ∧ H q = some (.tup xs)
  | .dat d, v => v = d
theorem RowAt.mono {CP : Addr} {H H' : Hp} (f : Fix CP H H') {r : MR} {v : V} (h : RowAt H r v) : RowAt H' r v := by
  cases r with
  | ins xs => obtain ⟨q, e1, e2⟩ := h; exact ⟨q, e1, f.1 _ _ e2⟩
  | dat d => exact h
def pflds (p : MP) (t : Addr) : List (Str × V) := [("name", .str p.name), ("kind", .str p.kind), ("rows", .ref t)]
def PieceAt (CP : Addr) (H : Hp) (p : MP) (v : V) : Prop := ∃ q dx t vs, v = .ref q ∧ H q = some (.ins CP dx (pflds p t)) ∧ H t = some (.tup vs) ∧ Paired (RowAt H) p.rows vs
theorem pair_mono {α : Type} {R R' : α → V → Prop} (f : ∀ x v, R x v → R' x v) : ∀ {xs : List α} {vs : List V}, Paired R xs vs → Paired R' xs vs
  | _, _, .nil => .nil
  | _, _, .cons h t => .cons (f _ _ h) (pair_mono f t)
theorem pair_snoc {α : Type} {R : α → V → Prop} {x : α} {v : V} : ∀ {xs : List α} {vs : List V}, Paired R xs vs → R x v → Paired R (xs ++ [x]) (vs ++ [v])
  | _, _, .nil, h => .cons h .nil
  | _, _, .cons a t, h => .cons a (pair_snoc t h)
theorem PieceAt.mono {CP : Addr} {H H' : Hp} (f : Fix CP H H') {p : MP} {v : V} (h : PieceAt CP H p v) : PieceAt CP H' p v := by
  obtain ⟨q, dx, t, vs, e1, e2, e3, r⟩ := h
  exact ⟨q, dx, t, vs, e1, f.2 _ _ _ e2, f.1 _ _ e3, pair_mono (fun _ _ h => h.mono f) r⟩
def AliAt (H : Hp) (p : Str × Str) (v : V) : Prop := ∃ q, v = .ref q ∧ H q = some (.tup [.str p.1, .str p.2])
theorem AliAt.mono {CP : Addr} {H H' : Hp} (f : Fix CP H H') {p : Str × Str} {v : V} (h : AliAt H p v) : AliAt H' p v := by
  obtain ⟨q, e1, e2⟩ := h
  exact ⟨q, e1, f.1 _ _ e2⟩
/-- a dict of names, each with True -/
def dk (zs : List Str) : List (Key × V) := zs.map fun z => (Sum.inr z, .bl true)
theorem dk_val (z : Str) : ∀ zs : List Str, (valV (dk zs) (Sum.inr z : Key)).isSome = zs.contains z
  | [] => rfl
  | y :: r => by
    by_cases e : y = z
    · subst e
      rw [show dk (y :: r) = ((Sum.inr y : Key), V.bl true) :: dk r from rfl, valV_pos rfl]
      simp
    · have ne : ¬ (Sum.inr y : Key) = Sum.inr z := fun q => e (Sum.inr.inj q)
      rw [show dk (y :: r) = ((Sum.inr y : Key), V.bl true) :: dk r from rfl, valV_neg ne, dk_val z r, List.contains_cons]
      have : (z == y) = false := by simpa using fun q => e q.symm
      rw [this, Bool.false_or]
theorem dk_put {z : Str} {zs : List Str} (h : zs.contains z = false) : putK (dk zs) (Sum.inr z : Key) (V.bl true) = dk (zs ++ [z]) := by
  have e : valV (dk zs) (Sum.inr z : Key) = none := by
    have := dk_val z zs
    rw [h] at this
    cases q : valV (dk zs) (Sum.inr z : Key) with
    | none => rfl
    | some v => rw [q] at this; cases this
  rw [putK_new _ e]
  show _ = (zs ++ [z]).map _
  rw [List.map_append]
  rfl
theorem dk_len (zs : List Str) : (dk zs).length = zs.length := List.length_map ..
/-- a draft's places: itself, its lists and dicts, the rows of the piece that is open -/
structure AD where
  p : Addr
  dp : Addr
  de : Addr
  da : Addr
  dn : Addr
  dr : Option Addr
def Foot (A : AD) (b : Addr) : Prop := b = A.p ∨ b = A.dp ∨ b = A.de ∨ b = A.da ∨ b = A.dn ∨ A.dr = some b
def dflds (A : AD) (k n s r : V) : List (Str × V) := [("pieces", .ref A.dp), ("exports", .ref A.de), ("aliases", .ref A.da), ("named", .ref A.dn), ("kind", k), ("name", n), ("start", s), ("rows", r)]
def OpAt (H : Hp) (A : AD) (k n s r : V) : Option OP → Prop
  | none => k = .non ∧ A.dr = none
  | some o => k = .str o.kind ∧ n = .str o.name ∧ s = .int o.start ∧ ∃ dr ws, A.dr = some dr ∧ r = .ref dr ∧ H dr = some (.lst ws) ∧ Paired (RowAt H) o.rows ws ∧ dr ≠ A.dp ∧ dr ≠ A.da
structure DAt (CD CP : Addr) (A : AD) (H : Hp) (st : ST) : Prop where
  ob : ∃ dx k n s r, H A.p = some (.ins CD dx (dflds A k n s r)) ∧ OpAt H A k n s r st.op
  dp : ∃ vs, H A.dp = some (.lst vs) ∧ Paired (PieceAt CP H) st.ps vs
  de : H A.de = some (.dK (dk st.ex))
  da : ∃ vs, H A.da = some (.lst vs) ∧ Paired (AliAt H) st.al vs
  dn : H A.dn = some (.dK (dk st.nm))
  n1 : A.dp ≠ A.da
  n2 : A.de ≠ A.dn
/-- all but the draft as it was -/
def Kept (A : AD) (H H' : Hp) : Prop := ∀ b o, H b = some o → ¬ Foot A b → H' b = some o
theorem Kept.of {A : AD} {H H' : Hp} (s : Same H H') : Kept A H H' := fun b o e _ => s b o e
theorem Kept.upd {A : AD} {H : Hp} {a : Addr} {o : HO} (h : Foot A a) : Kept A H (upd H a o) := fun b x e n => by
  rw [upd_ne (fun z => n (by rw [z]; exact h))]
  exact e
theorem Kept.trans {A : AD} {H H1 H2 : Hp} (a : Kept A H H1) (b : Kept A H1 H2) : Kept A H H2 := fun c o e n => b c o (a c o e n) n
/-- the draft's places later: the rows' place may be new -/
def Next (H : Hp) (A A' : AD) : Prop := A'.p = A.p ∧ A'.dp = A.dp ∧ A'.de = A.de ∧ A'.da = A.da ∧ A'.dn = A.dn ∧ ∀ b, A'.dr = some b → A.dr = some b ∨ H b = none
theorem Next.same (H : Hp) (A : AD) : Next H A A := ⟨rfl, rfl, rfl, rfl, rfl, fun b h => .inl h⟩
theorem Next.foot {H : Hp} {A A' : AD} (h : Next H A A') {b : Addr} {o : HO} (e : H b = some o) (n : ¬ Foot A b) : ¬ Foot A' b := by
  obtain ⟨h1, h2, h3, h4, h5, h6⟩ := h
  intro f
  apply n
  unfold Foot at f ⊢
  rw [h1, h2, h3, h4, h5] at f
  rcases f with f | f | f | f | f | f
  · exact .inl f
  · exact .inr (.inl f)
  · exact .inr (.inr (.inl f))
  · exact .inr (.inr (.inr (.inl f)))
  · exact .inr (.inr (.inr (.inr (.inl f))))
  · rcases h6 b f with q | q
    · exact .inr (.inr (.inr (.inr (.inr q))))
    · rw [q] at e; cases e
theorem OpAt.mono {CP : Addr} {H H' : Hp} {A : AD} {k n s r : V} {op : Option OP} (f : Fix CP H H') (hd : ∀ b ws, A.dr = some b → H b = some (.lst ws) → H' b = some (.lst ws)) (h : OpAt H A k n s r op) : OpAt H' A k n s r op := by
  cases op with
  | none => exact h
  | some o =>
    obtain ⟨e1, e2, e3, dr, ws, e4, e5, e6, e7, e8⟩ := h
    exact ⟨e1, e2, e3, dr, ws, e4, e5, hd _ _ e4 e6, pair_mono (fun _ _ h => h.mono f) e7, e8⟩
theorem DAt.mono {CD CP : Addr} {A : AD} {H H' : Hp} {st : ST} (s : Same H H') (h : DAt CD CP A H st) : DAt CD CP A H' st := by
  obtain ⟨dx, k, n, x, r, e1, e2⟩ := h.ob
  obtain ⟨vs, e3, e4⟩ := h.dp
  obtain ⟨us, e5, e6⟩ := h.da
  have f : Fix CP H H' := Fix.of s
  exact ⟨⟨dx, k, n, x, r, s _ _ e1, e2.mono f fun b ws _ e => s _ _ e⟩, ⟨vs, s _ _ e3, pair_mono (fun _ _ h => h.mono f) e4⟩, s _ _ h.de, ⟨us, s _ _ e5, pair_mono (fun _ _ h => h.mono f) e6⟩, s _ _ h.dn, h.n1, h.n2⟩
/-- a name more -/
theorem DAt.put_nm {CD CP : Addr} {A : AD} {H : Hp} {st : ST} {z : Str} (h : DAt CD CP A H st) : DAt CD CP A (upd H A.dn (.dK (dk (st.nm ++ [z])))) { st with nm := st.nm ++ [z] } := by
  obtain ⟨dx, k, n, x, r, e1, e2⟩ := h.ob
  obtain ⟨vs, e3, e4⟩ := h.dp
  obtain ⟨us, e5, e6⟩ := h.da
  have f : Fix CP H (upd H A.dn (.dK (dk (st.nm ++ [z])))) := Fix.dK h.dn
  exact ⟨⟨dx, k, n, x, r, by rw [upd_ne (ne_of e1 h.dn (by intro z; cases z))]; exact e1, e2.mono f fun b ws _ e => by rw [upd_ne (ne_of e h.dn (by intro z; cases z))]; exact e⟩,
    ⟨vs, by rw [upd_ne (ne_of e3 h.dn (by intro z; cases z))]; exact e3, pair_mono (fun _ _ h => h.mono f) e4⟩, by rw [upd_ne h.n2]; exact h.de,
    ⟨us, by rw [upd_ne (ne_of e5 h.dn (by intro z; cases z))]; exact e5, pair_mono (fun _ _ h => h.mono f) e6⟩, upd_same, h.n1, h.n2⟩
theorem DAt.put_ex {CD CP : Addr} {A : AD} {H : Hp} {st : ST} {z : Str} (h : DAt CD CP A H st) : DAt CD CP A (upd H A.de (.dK (dk (st.ex ++ [z])))) { st with ex := st.ex ++ [z] } := by
  obtain ⟨dx, k, n, x, r, e1, e2⟩ := h.ob
  obtain ⟨vs, e3, e4⟩ := h.dp
  obtain ⟨us, e5, e6⟩ := h.da
  have f : Fix CP H (upd H A.de (.dK (dk (st.ex ++ [z])))) := Fix.dK h.de
  exact ⟨⟨dx, k, n, x, r, by rw [upd_ne (ne_of e1 h.de (by intro z; cases z))]; exact e1, e2.mono f fun b ws _ e => by rw [upd_ne (ne_of e h.de (by intro z; cases z))]; exact e⟩,
    ⟨vs, by rw [upd_ne (ne_of e3 h.de (by intro z; cases z))]; exact e3, pair_mono (fun _ _ h => h.mono f) e4⟩, upd_same,
    ⟨us, by rw [upd_ne (ne_of e5 h.de (by intro z; cases z))]; exact e5, pair_mono (fun _ _ h => h.mono f) e6⟩, by rw [upd_ne h.n2.symm]; exact h.dn, h.n1, h.n2⟩
/-- an alias more, its tuple at v -/
theorem DAt.put_al {CD CP : Addr} {A : AD} {H : Hp} {st : ST} {us : List V} {v : V} {p : Str × Str} (h : DAt CD CP A H st) (e5 : H A.da = some (.lst us)) (e6 : Paired (AliAt H) st.al us) (hv : AliAt H p v) :
    DAt CD CP A (upd H A.da (.lst (us ++ [v]))) { st with al := st.al ++ [p] } := by
  obtain ⟨dx, k, n, x, r, e1, e2⟩ := h.ob
  obtain ⟨vs, e3, e4⟩ := h.dp
  have f : Fix CP H (upd H A.da (.lst (us ++ [v]))) := Fix.lst e5
  refine ⟨⟨dx, k, n, x, r, by rw [upd_ne (ne_of e1 e5 (by intro z; cases z))]; exact e1, e2.mono f fun b ws eb e => ?_⟩,
    ⟨vs, by rw [upd_ne h.n1]; exact e3, pair_mono (fun _ _ h => h.mono f) e4⟩, by rw [upd_ne (ne_of h.de e5 (by intro z; cases z))]; exact h.de,
    ⟨_, upd_same, pair_mono (fun _ _ h => h.mono f) (pair_snoc e6 hv)⟩, by rw [upd_ne (ne_of h.dn e5 (by intro z; cases z))]; exact h.dn, h.n1, h.n2⟩
  cases ho : st.op with
  | none =>
    rw [ho] at e2
    rw [e2.2] at eb
    cases eb
  | some o =>
    rw [ho] at e2
    obtain ⟨_, _, _, dr, ws', q4, q5, q6, q7, q8, q9⟩ := e2
    rw [q4] at eb
    cases eb
    rw [upd_ne q9]
    exact e
end TX

set_option Elab.async false
set_option linter.all false
set_option maxRecDepth 100000
set_option maxHeartbeats 4000000
/-! The draft's methods that take names. -/
namespace TX
open PySem PySem.Spec PyProof.Rows L2 L2.FK FS
abbrev sDraft (j : Nat) : Stmt := inClass (top (TX.o + 12)) j
structure TC (K : PySem.W.Frag) (CD CP : Addr) : Prop where
  cD : Cls K CD
  nPieces : NoAttr K CD "pieces"
  nExports : NoAttr K CD "exports"
  nAliases : NoAttr K CD "aliases"
  nNamed : NoAttr K CD "named"
  nKind : NoAttr K CD "kind"
  nName : NoAttr K CD "name"
  nStart : NoAttr K CD "start"
  nRows : NoAttr K CD "rows"
  cP : Cls K CP
  pName : NoAttr K CP "name"
  pKind : NoAttr K CP "kind"
  pRows : NoAttr K CP "rows"
  ne : CP ≠ CD
theorem Kept.next {A A1 : AD} {H H1 H2 : Hp} (a : Kept A H H1) (n : Next H A A1) (b : Kept A1 H1 H2) : Kept A H H2 := fun c o e f => b c o (a c o e f) (n.foot e f)
theorem Next.trans {CD CP : Addr} {A A1 A2 : AD} {H H1 : Hp} {st : ST} (k : Kept A H H1) (a : Next H A A1) (d : DAt CD CP A1 H1 st) (b : Next H1 A1 A2) : Next H A A2 := by
  obtain ⟨h1, h2, h3, h4, h5, h6⟩ := a
  obtain ⟨k1, k2, k3, k4, k5, k6⟩ := b
  refine ⟨k1.trans h1, k2.trans h2, k3.trans h3, k4.trans h4, k5.trans h5, fun c hc => ?_⟩
  rcases k6 c hc with q | q
  · exact h6 c q
  · cases e : H c with
    | none => exact .inr rfl
    | some x =>
      by_cases f : Foot A c
      · unfold Foot at f
        obtain ⟨dx, kk, nn, x2, r, e1, _⟩ := d.ob
        obtain ⟨vs, e3, _⟩ := d.dp
        obtain ⟨us, e5, _⟩ := d.da
        rcases f with f | f | f | f | f | f
        · rw [f, ← h1, e1] at q; cases q
        · rw [f, ← h2, e3] at q; cases q
        · rw [f, ← h3, d.de] at q; cases q
        · rw [f, ← h4, e5] at q; cases q
        · rw [f, ← h5, d.dn] at q; cases q
        · exact .inl f
      · rw [k c x e f] at q; cases q
/-- what a method that takes something hands back -/
def Res (CD CP : Addr) (A : AD) (H : Hp) (r : Option ST) (Q : VK) : Prop :=
  (r = none → ∀ H', Kept A H H' → Q (.bl false) H') ∧ ∀ st', r = some st' → ∀ H' A', Kept A H H' → Next H A A' → DAt CD CP A' H' st' → Q (.bl true) H'
theorem Res.of {CD CP : Addr} {A : AD} {H : Hp} {r r' : Option ST} {Q : VK} (h : Res CD CP A H r Q) (e : r = r') : Res CD CP A H r' Q := e ▸ h
theorem Res.here {CD CP : Addr} {A : AD} {H H1 : Hp} {r : Option ST} {Q : VK} (h : Res CD CP A H r Q) (s : Same H H1) : Res CD CP A H1 r Q :=
  ⟨fun e H' k => h.1 e H' ((Kept.of s).trans k), fun st' e H' A' k n d => h.2 st' e H' A' ((Kept.of s).trans k) ⟨n.1, n.2.1, n.2.2.1, n.2.2.2.1, n.2.2.2.2.1, fun b hb => (n.2.2.2.2.2 b hb).imp id fun q => by
    cases e : H b with
    | none => rfl
    | some o => rw [s b o e] at q; cases q⟩ d⟩
section
variable {P : Program} {w : World} {K : PySem.W.Frag} {mg : Str → Option Value} {base : Heap} {aO aR dF CD CP : Addr} {es : Array DictEntry} {nF : Nat} {tF : Str → Addr}
/-! ### take_name -/
def spTakeName (CD CP : Addr) : Sp := fun vs H Q _ => ∃ A st z, vs = [.ref A.p, .str z] ∧ DAt CD CP A H st ∧ Wd z ∧ st.nm.length < sizeLine ∧ Res CD CP A H (takeName z st) Q
theorem scTN : FnScope ["self", "name"] ["self", "name"] (defScope (sDraft 5)) := ⟨rfl, rfl, rfl, by decide +kernel, rfl, by decide +kernel, by decide +kernel⟩
theorem ok_takeName {f fN : Addr} {fd fdN : FuncData} (F : Fun K "take_name" "Draft.take_name" (sDraft 5) f fd) (T : TC K CD CP)
    (GN : FnOk P w K mg base CX0 1 fN fdN ["value"] (spIsName K)) (bN : Binds K fdN ["value"] []) (gN : mg "is_name" = some (.ref fN)) (kN : PySem.W.keepIn K (.ref fN) = true) : FnOk P w K mg base CX0 2 f fd ["self", "name"] (spTakeName CD CP) := by
  refine F.ok scTN (fun vs H Q E h => ?_) (fun cdv A0 outer s H vs Q E hr h => ?_)
  · obtain ⟨A, st, z, rfl, _⟩ := h
    rfl
  · obtain ⟨A, st, z, rfl, D, hz, hl, q0, q1⟩ := h
    have hu := hu_of hr
    refine ⟨_, pss_cons (ps_if (PW.pt (pw_or (pt_not (pt_val (pe_call GN hr rfl gN kN bN .nil pass0 (pa_cons (pv 1) pa_nil)))) (pw_or1 (pt_cmp (pc_din hu (pv 1) (pe_fld (pv 0) rfl)))))) (pss_one (ps_ret pe_bl)) pss_nil)
      (pss_cons (ps_dput hu (pe_fld (pv 0) rfl) (pv 1) pe_bl rfl) (pss_one (ps_ret pe_bl))), ?_⟩
    refine ⟨.str z, rfl, .str z, rfl, .inl ⟨z, rfl, hz, fun H1 s1 => ⟨_, rfl, ?_⟩⟩⟩
    have D1 := D.mono s1
    obtain ⟨dx, k, n, x, r, e1, e2⟩ := D1.ob
    cases hn : isName z with
    | false =>
      refine iteT (iteT (q0 ?_ H1 (Kept.of s1)))
      unfold takeName
      rw [hn]
      rfl
    | true =>
      refine iteF ⟨.str z, rfl, .ref A.p, rfl, A.p, CD, dx, _, .ref A.dn, rfl, e1, T.cD, T.nNamed, rfl, A.dn, _, rfl, DGet.k (k := Sum.inr z) D1.dn, _, rfl, ?_⟩
      rw [dk_val]
      cases hc : st.nm.contains z with
      | true =>
        refine iteT (q0 ?_ H1 (Kept.of s1))
        unfold takeName
        rw [hn, hc]
        rfl
      | false =>
        refine iteF ⟨.ref A.p, rfl, A.p, CD, dx, _, .ref A.dn, rfl, e1, T.cD, T.nNamed, rfl, .str z, rfl, A.dn, _, rfl, DPut.k (k := Sum.inr z) D1.dn (by rw [dk_len]; exact hl), ?_⟩
        have e : putK (dk st.nm) (Sum.inr z : Key) (V.bl true) = dk (st.nm ++ [z]) := dk_put hc
        refine q1 _ ?_ _ A ((Kept.of s1).trans (Kept.upd (.inr (.inr (.inr (.inr (.inl rfl))))))) (Next.same _ _) (by rw [e]; exact D1.put_nm)
        unfold takeName
        rw [hn, hc]
        rfl
/-! ### take_exports -/
def spTakeExports (CD CP : Addr) : Sp := fun vs H Q _ => ∃ A st a, ∃ ws : List Str, vs = [.ref A.p, .ref a] ∧ DAt CD CP A H st ∧ H a = some (.lst (ws.map V.str)) ∧ ¬ Foot A a ∧ (∀ z ∈ ws, Wd z) ∧ st.ex.length + ws.length < sizeLine ∧ Res CD CP A H (takeExports ws st) Q
theorem scTE : FnScope ["self", "names", "name"] ["self", "names"] (defScope (sDraft 3)) := ⟨rfl, rfl, rfl, by decide +kernel, rfl, by decide +kernel, by decide +kernel⟩
theorem ok_takeExports {f fN : Addr} {fd fdN : FuncData} (F : Fun K "take_exports" "Draft.take_exports" (sDraft 3) f fd) (T : TC K CD CP) (zl : mg "len" = none)
    (GN : FnOk P w K mg base CX0 1 fN fdN ["value"] (spIsName K)) (bN : Binds K fdN ["value"] []) (gN : mg "is_name" = some (.ref fN)) (kN : PySem.W.keepIn K (.ref fN) = true) : FnOk P w K mg base CX0 2 f fd ["self", "names"] (spTakeExports CD CP) := by
  refine F.ok scTE (fun vs H Q E h => ?_) (fun cdv A0 outer s H vs Q E hr h => ?_)
  · obtain ⟨A, st, a, ws, rfl, _⟩ := h
    rfl
  · obtain ⟨A, st, a, ws, rfl, D, ha, na, hw, hl, q0, q1⟩ := h
    have hu := hu_of hr
    refine ⟨_, pss_cons (ps_for PassesOwn.never rfl (pi_list (pv 1)) (pg_name (i := 2) scTE.nd rfl (Or.inl rfl))
        (pss_cons (ps_if (PW.pt (pw_or (pt_not (pt_val (pe_call GN hr rfl gN kN bN .nil pass0 (pa_cons (pv 2) pa_nil)))) (pw_or1 (pt_cmp (pc_din hu (pv 2) (pe_fld (pv 0) rfl)))))) (pss_one (ps_ret pe_bl)) pss_nil)
          (pss_one (ps_dput hu (pe_fld (pv 0) rfl) (pv 2) pe_bl rfl))))
      (pss_one (ps_ret (pe_cmpR op_gt (pe_callB call_len_seq (by rfl) zl PySem.boot_len (pa_cons (pv 1) pa_nil)) pe_int (nomark _)))), ?_⟩
    refine ⟨_, rfl, a, rfl, ⟨_, SqL.of ha⟩, for_list (K := K) (a := a) (xs := ws.map V.str) (fun i σ H' => ∃ v, σ = [some (.ref A.p), some (.ref a), v] ∧ ∃ st', exportsGo (ws.drop i) st' = exportsGo ws st ∧ DAt CD CP A H' st' ∧ Kept A H H' ∧ st'.ex.length = st.ex.length + i)
      ⟨none, rfl, st, by rw [List.drop_zero], D, fun _ _ e _ => e, by omega⟩ (fun i σ H' _ ⟨_, _, st', _, _, k, _⟩ => SqL.of (k _ _ ha na)) ?_ ?_⟩
    · rintro i y σ H' hi ⟨v, rfl, st', eg, D', k', el⟩
      rw [List.getElem?_map] at hi
      obtain ⟨z, hz, rfl⟩ : ∃ z, ws[i]? = some z ∧ y = V.str z := by
        cases e : ws[i]? with
        | none => rw [e] at hi; cases hi
        | some z => rw [e] at hi; exact ⟨z, rfl, (Option.some.inj hi).symm⟩
      have hlt : i < ws.length := (List.getElem?_eq_some_iff.mp hz).1
      have ed : ws.drop i = z :: ws.drop (i + 1) := by
        rw [List.drop_eq_getElem_cons hlt]
        rw [(List.getElem?_eq_some_iff.mp hz).2]
      have hne : ws.length ≠ 0 := by omega
      refine ⟨_, rfl, .str z, rfl, .inl ⟨z, rfl, hw z (List.mem_of_getElem? hz), fun H1 s1 => ⟨_, rfl, ?_⟩⟩⟩
      have D1 := D'.mono s1
      obtain ⟨dx, k, n, x, r, e1, e2⟩ := D1.ob
      have no : (isName z && !st'.ex.contains z) = false → takeExports ws st = none := fun h => by
        unfold takeExports
        rw [if_neg hne, ← eg, ed]
        show (if (isName z && !st'.ex.contains z) = true then _ else none) = none
        rw [h, if_neg Bool.false_ne_true]
      have kk : Kept A H H1 := k'.trans (Kept.of s1)
      cases hn : isName z with
      | false =>
        refine iteT (iteT (q0 (no ?_) H1 kk))
        rw [hn]
        rfl
      | true =>
        refine iteF ⟨.str z, rfl, .ref A.p, rfl, A.p, CD, dx, _, .ref A.de, rfl, e1, T.cD, T.nExports, rfl, A.de, _, rfl, DGet.k (k := Sum.inr z) D1.de, _, rfl, ?_⟩
        rw [dk_val]
        cases hc : st'.ex.contains z with
        | true =>
          refine iteT (q0 (no ?_) H1 kk)
          rw [hn, hc]
          rfl
        | false =>
          refine iteF ⟨.ref A.p, rfl, A.p, CD, dx, _, .ref A.de, rfl, e1, T.cD, T.nExports, rfl, .str z, rfl, A.de, _, rfl, DPut.k (k := Sum.inr z) D1.de (by rw [dk_len]; omega), ?_⟩
          have e : putK (dk st'.ex) (Sum.inr z : Key) (V.bl true) = dk (st'.ex ++ [z]) := dk_put hc
          refine ⟨_, rfl, _, ?_, by rw [e]; exact D1.put_ex, kk.trans (Kept.upd (.inr (.inr (.inl rfl)))), by rw [List.length_append, el]; rfl⟩
          rw [← eg, ed]
          show _ = (if (isName z && !st'.ex.contains z) = true then _ else none)
          rw [hn, hc]
          rfl
    · rintro σ H' ⟨v, rfl, st', eg, D', k', el⟩
      rw [List.length_map, List.drop_length] at eg
      refine ⟨.ref a, rfl, a, _, rfl, .inl (SqL.of (k' _ _ ha na)), _, _, rfl, rfl, ?_⟩
      rw [List.length_map]
      by_cases hz : ws.length = 0
      · have e : decide ((0 : Int) < ((ws.length : Nat) : Int)) = false := decide_eq_false (by omega)
        show Q (.bl (decide ((0 : Int) < ((ws.length : Nat) : Int)))) H'
        rw [e]
        refine q0 ?_ H' k'
        unfold takeExports
        rw [if_pos hz]
      · have e : decide ((0 : Int) < ((ws.length : Nat) : Int)) = true := decide_eq_true (by omega)
        show Q (.bl (decide ((0 : Int) < ((ws.length : Nat) : Int)))) H'
        rw [e]
        refine q1 st' ?_ H' A k' (Next.same _ _) D'
        unfold takeExports
        rw [if_neg hz, ← eg]
        rfl
end
end TX

set_option Elab.async false
set_option linter.all false
set_option maxRecDepth 100000
set_option maxHeartbeats 4000000
/-! The draft's methods that take a row outside of pieces. -/
namespace TX
open PySem PySem.Spec PyProof.Rows L2 L2.FK FS
/-- a draft but for its own fields -/
structure DB (CD CP : Addr) (A : AD) (H : Hp) (st : ST) : Prop where
  pi : ∃ dx fs, H A.p = some (.ins CD dx fs)
  dp : ∃ vs, H A.dp = some (.lst vs) ∧ Paired (PieceAt CP H) st.ps vs
  de : H A.de = some (.dK (dk st.ex))
  da : ∃ vs, H A.da = some (.lst vs) ∧ Paired (AliAt H) st.al vs
  dn : H A.dn = some (.dK (dk st.nm))
  n1 : A.dp ≠ A.da
  n2 : A.de ≠ A.dn
theorem DAt.db {CD CP : Addr} {A : AD} {H : Hp} {st : ST} (h : DAt CD CP A H st) : DB CD CP A H st := by
  obtain ⟨dx, k, n, s, r, e1, _⟩ := h.ob
  exact ⟨⟨dx, _, e1⟩, h.dp, h.de, h.da, h.dn, h.n1, h.n2⟩
theorem DB.mono {CD CP : Addr} {A : AD} {H H' : Hp} {st : ST} (s : Same H H') (h : DB CD CP A H st) : DB CD CP A H' st := by
  obtain ⟨dx, fs, e1⟩ := h.pi
  obtain ⟨vs, e3, e4⟩ := h.dp
  obtain ⟨us, e5, e6⟩ := h.da
  have f : Fix CP H H' := Fix.of s
  exact ⟨⟨dx, fs, s _ _ e1⟩, ⟨vs, s _ _ e3, pair_mono (fun _ _ h => h.mono f) e4⟩, s _ _ h.de, ⟨us, s _ _ e5, pair_mono (fun _ _ h => h.mono f) e6⟩, s _ _ h.dn, h.n1, h.n2⟩
theorem DB.put {CD CP : Addr} {A : AD} {H : Hp} {st : ST} {dx dx' : Addr} {fs fs' : List (Str × V)} (ne : CP ≠ CD) (e : H A.p = some (.ins CD dx fs)) (h : DB CD CP A H st) : DB CD CP A (upd H A.p (.ins CD dx' fs')) st := by
  obtain ⟨vs, e3, e4⟩ := h.dp
  obtain ⟨us, e5, e6⟩ := h.da
  have f : Fix CP H (upd H A.p (.ins CD dx' fs')) := Fix.ins e ne
  exact ⟨⟨dx', fs', upd_same⟩, ⟨vs, by rw [upd_ne (ne_of e3 e (by intro z; cases z))]; exact e3, pair_mono (fun _ _ h => h.mono f) e4⟩, by rw [upd_ne (ne_of h.de e (by intro z; cases z))]; exact h.de,
    ⟨us, by rw [upd_ne (ne_of e5 e (by intro z; cases z))]; exact e5, pair_mono (fun _ _ h => h.mono f) e6⟩, by rw [upd_ne (ne_of h.dn e (by intro z; cases z))]; exact h.dn, h.n1, h.n2⟩
theorem DB.dAt {CD CP : Addr} {A : AD} {H : Hp} {st : ST} {dr : Option Addr} {op : Option OP} {dx : Addr} {k n s r : V} (h : DB CD CP A H st) (e : H A.p = some (.ins CD dx (dflds A k n s r))) (o : OpAt H { A with dr := dr } k n s r op) : DAt CD CP { A with dr := dr } H { st with op := op } :=
  ⟨⟨dx, k, n, s, r, e, o⟩, h.dp, h.de, h.da, h.dn, h.n1, h.n2⟩
/-- the module's own constants that the draft reads -/
structure TM (K : PySem.W.Frag) (mg : Str → Option Value) (aK : Addr) : Prop where
  g12 : ∃ t, mg "MOST_PIECES" = some (.int 12 t)
  g16 : ∃ t, mg "MOST_ROWS" = some (.int 16 t)
  gK : mg "KINDS" = some (.ref aK)
  kK : KT K aK [.str "func", .str "data"]
theorem cut_rest (w1 : V) (rest : List V) : cutV (w1 :: rest) (some 1) none = rest := by
  unfold cutV
  rw [show HT.sIx (w1 :: rest).length 0 (some 1) = min 1 (w1 :: rest).length from HT.sIx_nat _ 0 1, HT.sIx_none]
  rw [show min 1 (w1 :: rest).length = 1 by rw [List.length_cons]; omega]
  show (List.take ((w1 :: rest).length - 1) rest) = _
  exact List.take_of_length_le (by rw [List.length_cons]; omega)
section
variable {P : Program} {w : World} {K : PySem.W.Frag} {mg : Str → Option Value} {base : Heap} {aO aR dF CD CP aK : Addr} {es : Array DictEntry} {nF : Nat} {tF : Str → Addr}
theorem len2 {ws : List Str} (h : ws.length = 2) : ∃ x y, ws = [x, y] := by
  match ws, h with
  | [x, y], _ => exact ⟨x, y, rfl⟩
theorem alias_no {ws : List Str} {st : ST} (h : ¬ ws.length = 2) : takeAlias ws st = none := by
  match ws, h with
  | [], _ => rfl
  | [_], _ => rfl
  | [_, _], h => exact absurd rfl h
  | _ :: _ :: _ :: _, _ => rfl
theorem open_no {num : Int} {ws : List Str} {st : ST} (h : ¬ ws.length = 2) : openPiece num ws st = none := by
  match ws, h with
  | [], _ => rfl
  | [_], _ => rfl
  | [_, _], h => exact absurd rfl h
  | _ :: _ :: _ :: _, _ => rfl
theorem ne2 {n : Nat} : decide (V.int ((n : Nat) : Int) = V.int 2) = decide (n = 2) := by
  by_cases h : n = 2
  · subst h; simp
  · rw [decide_eq_false h]
    exact decide_eq_false fun e => h (by have := V.int.inj e; omega)
/-! ### take_alias -/
def spTakeAlias (CD CP : Addr) : Sp := fun vs H Q _ => ∃ A st a, ∃ ws : List Str, vs = [.ref A.p, .ref a] ∧ DAt CD CP A H st ∧ H a = some (.lst (ws.map V.str)) ∧ ¬ Foot A a ∧ (∀ z ∈ ws, Wd z) ∧ st.nm.length < sizeLine ∧ st.al.length < sizeLine ∧ Res CD CP A H (takeAlias ws st) Q
theorem scTA : FnScope ["self", "names"] ["self", "names"] (defScope (sDraft 4)) := ⟨rfl, rfl, rfl, by decide +kernel, rfl, by decide +kernel, by decide +kernel⟩
theorem ok_takeAlias {f fN fM : Addr} {fd fdN fdM : FuncData} (F : Fun K "take_alias" "Draft.take_alias" (sDraft 4) f fd) (T : TC K CD CP) (zl : mg "len" = none)
    (GN : FnOk P w K mg base CX0 1 fN fdN ["value"] (spIsName K)) (bN : Binds K fdN ["value"] []) (gN : mg "is_name" = some (.ref fN)) (kN : PySem.W.keepIn K (.ref fN) = true)
    (GM : FnOk P w K mg base CX0 2 fM fdM ["self", "name"] (spTakeName CD CP)) (bM : Binds K fdM ["self", "name"] []) (mM : Meth K CD "take_name" fM) : FnOk P w K mg base CX0 3 f fd ["self", "names"] (spTakeAlias CD CP) := by
  refine F.ok scTA (fun vs H Q E h => ?_) (fun cdv A0 outer s H vs Q E hr h => ?_)
  · obtain ⟨A, st, a, ws, rfl, _⟩ := h
    rfl
  · obtain ⟨A, st, a, ws, rfl, D, ha, na, hw, hl, hl2, q0, q1⟩ := h
    have hr1 : Room 1 _ := hr.mono (by decide)
    refine ⟨_, pss_cons (ps_if (PW.pt (pw_or (pt_cmpR op_ne (pe_callB call_len_seq (by rfl) zl PySem.boot_len (pa_cons (pv 1) pa_nil)) pe_int (nomark _))
          (pw_or (pt_not (pt_val (pe_call GN hr1 rfl gN kN bN .nil pass0 (pa_cons (pe_ix ix_list (pv 1) pe_int (fun _ _ => rfl)) pa_nil))))
          (pw_or1 (pt_not (pt_val (pe_meth (pv 0) T.cD mM GM hr bM .nil pass0 (pa_cons (pe_ix ix_list (pv 1) pe_int (fun _ _ => rfl)) pa_nil)))))))) (pss_one (ps_ret pe_bl)) pss_nil)
      (pss_cons (ps_expr (pe_bm PySem.F.plainAttrs_list PySem.F.slot_list_append PySem.F.type_list_append mt_append (pe_fld (pv 0) rfl) (pa_cons (pe_tupS (pa_cons (pe_ix ix_list (pv 1) pe_int (fun _ _ => rfl)) (pa_cons (pe_ix ix_list (pv 1) pe_int (fun _ _ => rfl)) pa_nil))) pa_nil)))
      (pss_one (ps_ret pe_bl))), ?_⟩
    refine ⟨.ref a, rfl, a, _, rfl, .inl (SqL.of ha), rfl, _, rfl, ?_⟩
    rw [List.length_map, ne2]
    by_cases h2 : ws.length = 2
    · obtain ⟨x, y, rfl⟩ := len2 h2
      rw [decide_eq_true h2]
      refine iteF ?_
      refine ⟨.ref a, rfl, a, _, 1, _, rfl, rfl, SqL.of ha, atI_nat (j := 1) rfl, .str y, rfl, .inl ⟨y, rfl, hw y (by simp), fun H1 s1 => ⟨_, rfl, ?_⟩⟩⟩
      cases hn : isName y with
      | false =>
        refine iteT (iteT (q0 ?_ H1 (Kept.of s1)))
        show (if isName y = true then _ else none) = none
        rw [hn, if_neg Bool.false_ne_true]
      | true =>
        have D1 := D.mono s1
        obtain ⟨dx, k, n, z, r, e1, e2⟩ := D1.ob
        have ec : takeAlias [x, y] st = (takeName x st).map fun s => { s with al := s.al ++ [(x, y)] } := by
          show (if isName y = true then _ else none) = _
          rw [hn, if_pos rfl]
        refine iteF ⟨.ref A.p, rfl, A.p, dx, _, rfl, e1, rfl, .ref a, rfl, a, _, 0, _, rfl, rfl, SqL.of (s1 _ _ ha), atI_nat (j := 0) rfl, A, st, x, rfl, D1, hw x (by simp), hl, fun en H2 k2 => ?_, fun st1 en H2 A1 k2 n2 D2 => ?_⟩
        · refine ⟨_, rfl, iteT (q0 ?_ H2 ((Kept.of s1).trans k2))⟩
          rw [ec, en]
          rfl
        · refine ⟨_, rfl, iteF ?_⟩
          have n0 : Next H A A1 := ⟨n2.1, n2.2.1, n2.2.2.1, n2.2.2.2.1, n2.2.2.2.2.1, fun b hb => (n2.2.2.2.2.2 b hb).imp id fun q => by
            cases e : H b with
            | none => rfl
            | some o => rw [s1 b o e] at q; cases q⟩
          have k0 : Kept A H H2 := (Kept.of s1).trans k2
          have a2 : H2 a = some (.lst ([x, y].map V.str)) := k0 _ _ ha na
          obtain ⟨dx2, kk, nn, ss, rr, e3, e4⟩ := D2.ob
          obtain ⟨us, e5, e6⟩ := D2.da
          have ep : A1.p = A.p := n2.1
          refine ⟨.ref A.p, rfl, A.p, CD, dx2, _, .ref A1.da, rfl, by rw [← ep]; exact e3, T.cD, T.nAliases, rfl, .inl ⟨rfl, _, SqL.of e5⟩, ?_⟩
          refine ⟨.ref a, rfl, a, _, 0, _, rfl, rfl, SqL.of a2, atI_nat (j := 0) rfl, .ref a, rfl, a, _, 1, _, rfl, rfl, SqL.of a2, atI_nat (j := 1) rfl, by simp, fun q H3 s3 nq eq => ?_⟩
          have D3 := D2.mono s3
          have f : Fix CP H2 H3 := Fix.of s3
          have lim : us.length < sizeLine := by
            have h1 := e6.length
            have h3 : st1.al = st.al := by
              unfold takeName at en
              split at en
              · cases en; rfl
              · cases en
            rw [h3] at h1
            omega
          refine ⟨A1.da, us, .ref q, rfl, rfl, s3 _ _ e5, lim, ?_⟩
          refine q1 _ (by rw [ec, en]; rfl) _ A1 ((k0.next n0 (Kept.of s3)).next n0 (Kept.upd (.inr (.inr (.inr (.inl rfl)))))) n0 (D3.put_al (p := (x, y)) (s3 _ _ e5) (pair_mono (fun _ _ h => h.mono f) e6) ⟨q, rfl, eq⟩)
    · rw [decide_eq_false h2]
      exact iteT (iteT (q0 (alias_no h2) H (Kept.of (Same.refl H))))
end
end TX

set_option Elab.async false
set_option linter.all false
set_option maxRecDepth 100000
set_option maxHeartbeats 4000000
/-! A piece is opened; a row outside of pieces. -/
namespace TX
open PySem PySem.Spec PyProof.Rows L2 L2.FK FS
theorem Next.here {H H1 : Hp} {A A1 : AD} (s : Same H H1) (n : Next H1 A A1) : Next H A A1 := ⟨n.1, n.2.1, n.2.2.1, n.2.2.2.1, n.2.2.2.2.1, fun b hb => (n.2.2.2.2.2 b hb).imp id fun q => by
  cases e : H b with
  | none => rfl
  | some o => rw [s b o e] at q; cases q⟩
theorem takeName_op {z : Str} {st st1 : ST} (h : takeName z st = some st1) : st1.op = st.op ∧ st1.ps = st.ps ∧ st1.al = st.al ∧ st1.ex = st.ex := by
  unfold takeName at h
  split at h
  · cases h; exact ⟨rfl, rfl, rfl, rfl⟩
  · cases h
theorem ne12 {n : Nat} : decide (V.int ((n : Nat) : Int) = V.int 12) = decide (n = 12) := by
  by_cases h : n = 12
  · subst h; simp
  · rw [decide_eq_false h]
    exact decide_eq_false fun e => h (by have := V.int.inj e; omega)
section
variable {P : Program} {w : World} {K : PySem.W.Frag} {mg : Str → Option Value} {base : Heap} {aO aR dF CD CP aK : Addr} {es : Array DictEntry} {nF : Nat} {tF : Str → Addr}
/-! ### open_piece -/
def spOpen (CD CP : Addr) : Sp := fun vs H Q _ => ∃ A st a num, ∃ ws : List Str, vs = [.ref A.p, .int num, .ref a] ∧ DAt CD CP A H st ∧ st.op = none ∧ H a = some (.lst (ws.map V.str)) ∧ ¬ Foot A a ∧ (∀ z ∈ ws, Wd z) ∧ st.nm.length < sizeLine ∧ Res CD CP A H (openPiece num ws st) Q
theorem scOP : FnScope ["self", "number", "words"] ["self", "number", "words"] (defScope (sDraft 6)) := ⟨rfl, rfl, rfl, by decide +kernel, rfl, by decide +kernel, by decide +kernel⟩
theorem ok_open {f fM : Addr} {fd fdM : FuncData} (F : Fun K "open_piece" "Draft.open_piece" (sDraft 6) f fd) (T : TC K CD CP) (M : TM K mg aK) (zl : mg "len" = none)
    (GM : FnOk P w K mg base CX0 2 fM fdM ["self", "name"] (spTakeName CD CP)) (bM : Binds K fdM ["self", "name"] []) (mM : Meth K CD "take_name" fM) : FnOk P w K mg base CX0 3 f fd ["self", "number", "words"] (spOpen CD CP) := by
  obtain ⟨t12, g12⟩ := M.g12
  refine F.ok scOP (fun vs H Q E h => ?_) (fun cdv A0 outer s H vs Q E hr h => ?_)
  · obtain ⟨A, st, a, num, ws, rfl, _⟩ := h
    rfl
  · obtain ⟨A, st, a, num, ws, rfl, D, hop, ha, na, hw, hl, q0, q1⟩ := h
    refine ⟨_, pss_cons (ps_if (PW.pt (pw_or (pt_cmpR op_ne (pe_callB call_len_seq (by rfl) zl PySem.boot_len (pa_cons (pv 2) pa_nil)) pe_int (nomark _))
          (pw_or (pt_cmpR op_eq (pe_callB call_len_seq (by rfl) zl PySem.boot_len (pa_cons (pe_fld (pv 0) rfl) pa_nil)) (pe_glob rfl g12 (v := .int 12) ⟨_, rfl⟩) (by rfl))
          (pw_or1 (pt_not (pt_val (pe_meth (pv 0) T.cD mM GM hr bM .nil pass0 (pa_cons (pe_ix ix_list (pv 2) pe_int (fun _ _ => rfl)) pa_nil)))))))) (pss_one (ps_ret pe_bl)) pss_nil)
      (pss_cons (ps_asg (pv 2) (pg_unl rfl (pgs_cons (pg_fld (pv 0)) (pgs_cons (pg_fld (pv 0)) pgs_nil))))
      (pss_cons (ps_fld (pv 0) (pe_op op_add (pv 1) pe_int) rfl)
      (pss_cons (ps_fld (pv 0) (pe_lstS pa_nil) rfl)
      (pss_one (ps_ret pe_bl))))), ?_⟩
    refine ⟨.ref a, rfl, a, _, rfl, .inl (SqL.of ha), rfl, _, rfl, ?_⟩
    rw [List.length_map, ne2]
    by_cases h2 : ws.length = 2
    · obtain ⟨x, y, rfl⟩ := len2 h2
      rw [decide_eq_true h2]
      refine iteF ?_
      obtain ⟨dx, k, n, z, r, e1, e2⟩ := D.ob
      obtain ⟨vs, e3, e4⟩ := D.dp
      refine ⟨.ref A.p, rfl, A.p, CD, dx, _, .ref A.dp, rfl, e1, T.cD, T.nPieces, rfl, A.dp, _, rfl, .inl (SqL.of e3), rfl, _, rfl, ?_⟩
      rw [← e4.length, ne12]
      by_cases h12 : st.ps.length = 12
      · rw [decide_eq_true h12]
        refine iteT (iteT (q0 ?_ H (Kept.of (Same.refl H))))
        show (if st.ps.length = 12 then none else _) = none
        rw [if_pos h12]
      · rw [decide_eq_false h12]
        have ec : openPiece num [x, y] st = (takeName y st).map fun s => { s with op := some ⟨x, y, num + 1, []⟩ } := by
          show (if st.ps.length = 12 then none else _) = _
          rw [if_neg h12]
        refine iteF ⟨.ref A.p, rfl, A.p, dx, _, rfl, e1, rfl, .ref a, rfl, a, _, 1, _, rfl, rfl, SqL.of ha, atI_nat (j := 1) rfl, A, st, y, rfl, D, hw y (by simp), hl, fun en H2 k2 => ?_, fun st1 en H2 A1 k2 n2 D2 => ?_⟩
        · refine ⟨_, rfl, iteT (q0 ?_ H2 k2)⟩
          rw [ec, en]
          rfl
        · refine ⟨_, rfl, iteF ?_⟩
          have a2 : H2 a = some (.lst ([x, y].map V.str)) := k2 _ _ ha na
          obtain ⟨dx2, kk, nn, ss, rr, e5, e6⟩ := D2.ob
          have ep : A1.p = A.p := n2.1
          have B0 := D2.db
          have B1 := B0.put (dx' := dx2) (fs' := dflds A1 (.str x) nn ss rr) T.ne e5
          have B2 := B1.put (dx' := dx2) (fs' := dflds A1 (.str x) (.str y) ss rr) T.ne upd_same
          have B3 := B2.put (dx' := dx2) (fs' := dflds A1 (.str x) (.str y) (.int (num + 1)) rr) T.ne upd_same
          rw [ep] at B1 B2 B3 e5
          refine ⟨.ref a, rfl, a, _, rfl, SqL.of a2, rfl, _, _, rfl, .ref A.p, rfl, A.p, CD, dx2, _, rfl, e5, T.cD, T.nKind, (by show 8 < 1000; decide), ?_⟩
          refine ⟨_, _, rfl, .ref A.p, rfl, A.p, CD, dx2, dflds A1 (.str x) nn ss rr, rfl, upd_same, T.cD, T.nName, (by show 8 < 1000; decide), rfl, ?_⟩
          refine ⟨.int num, rfl, num, 1, rfl, rfl, .ref A.p, rfl, A.p, CD, dx2, dflds A1 (.str x) (.str y) ss rr, rfl, upd_same, T.cD, T.nStart, (by show 8 < 1000; decide), ?_⟩
          refine ⟨by simp, fun q H3 s3 nq eq => ⟨.ref A.p, rfl, A.p, CD, dx2, dflds A1 (.str x) (.str y) (.int (num + 1)) rr, rfl, s3 _ _ upd_same, T.cD, T.nRows, (by show 8 < 1000; decide), ?_⟩⟩
          have B4 := B3.mono s3
          have e7 : H3 A.p = some (.ins CD dx2 (dflds A1 (.str x) (.str y) (.int (num + 1)) rr)) := s3 _ _ upd_same
          rw [← ep] at e7
          have B5 := B4.put (dx' := dx2) (fs' := dflds A1 (.str x) (.str y) (.int (num + 1)) (.ref q)) T.ne e7
          rw [ep] at B5 e7
          have nqp : q ≠ A.p := fun e => by rw [e, upd_same] at nq; cases nq
          have q2 : H2 q = none := by
            rw [upd_ne nqp, upd_ne nqp, upd_ne nqp] at nq
            exact nq
          have D5 : DAt CD CP { A1 with dr := some q } (upd H3 A.p (.ins CD dx2 (dflds A1 (.str x) (.str y) (.int (num + 1)) (.ref q)))) { st1 with op := some ⟨x, y, num + 1, []⟩ } := by
            refine B5.dAt (dx := dx2) (k := .str x) (n := .str y) (s := .int (num + 1)) (r := .ref q) (by rw [ep]; exact upd_same) ⟨rfl, rfl, rfl, q, [], rfl, rfl, by rw [upd_ne nqp]; exact eq, .nil, fun e => ?_, fun e => ?_⟩
            · obtain ⟨vs2, e8, _⟩ := D2.dp
              rw [e, e8] at q2
              cases q2
            · obtain ⟨vs2, e8, _⟩ := D2.da
              rw [e, e8] at q2
              cases q2
          have fp : Foot A A.p := .inl rfl
          refine q1 _ (by rw [ec, en]; rfl) _ { A1 with dr := some q } ((((k2.trans (Kept.upd fp)).trans (Kept.upd fp)).trans (Kept.upd fp)).trans ((Kept.of s3).trans (Kept.upd fp))) ?_ D5
          refine Next.trans (st := st1) k2 n2 D2 ⟨rfl, rfl, rfl, rfl, rfl, fun b hb => ?_⟩
          obtain rfl : q = b := Option.some.inj hb
          exact .inr q2
    · rw [decide_eq_false h2]
      exact iteT (iteT (q0 (open_no h2) H (Kept.of (Same.refl H))))
end
end TX

set_option Elab.async false
set_option linter.all false
set_option maxRecDepth 100000
set_option maxHeartbeats 4000000
/-! A row outside of pieces; a row within a piece. -/
namespace TX
open PySem PySem.Spec PyProof.Rows L2 L2.FK FS
theorem DAt.free {CD CP : Addr} {A : AD} {H : Hp} {st : ST} (h : DAt CD CP A H st) {b : Addr} (e : H b = none) : ¬ Foot A b := by
  intro f
  obtain ⟨dx, k, n, s, r, e1, e2⟩ := h.ob
  obtain ⟨vs, e3, _⟩ := h.dp
  obtain ⟨us, e5, _⟩ := h.da
  rcases f with f | f | f | f | f | f
  · rw [f, e1] at e; cases e
  · rw [f, e3] at e; cases e
  · rw [f, h.de] at e; cases e
  · rw [f, e5] at e; cases e
  · rw [f, h.dn] at e; cases e
  · cases ho : st.op with
    | none => rw [ho] at e2; rw [e2.2] at f; cases f
    | some o =>
      rw [ho] at e2
      obtain ⟨_, _, _, dr, ws, q1, _, q2, _⟩ := e2
      rw [q1] at f
      cases f
      rw [q2] at e
      cases e
section
variable {P : Program} {w : World} {K : PySem.W.Frag} {mg : Str → Option Value} {base : Heap} {aO aR dF CD CP aK : Addr} {es : Array DictEntry} {nF : Nat} {tF : Str → Addr}
theorem kinds_in (w1 : Str) : inV (.str w1) [.str "func", .str "data"] = decide (w1 = "func" ∨ w1 = "data") := by
  show (decide (("func" : Str) = w1) || (decide (("data" : Str) = w1) || false)) = _
  by_cases h1 : w1 = "func"
  · subst h1; simp
  · by_cases h2 : w1 = "data"
    · subst h2; simp
    · rw [decide_eq_false fun e => h1 e.symm, decide_eq_false fun e => h2 e.symm, decide_eq_false fun e => e.elim h1 h2]
      rfl
/-! ### take_between -/
def spBetween (CD CP : Addr) : Sp := fun vs H Q _ => ∃ A st a num, ∃ ws : List Str, vs = [.ref A.p, .int num, .ref a] ∧ DAt CD CP A H st ∧ st.op = none ∧ H a = some (.lst (ws.map V.str)) ∧ ¬ Foot A a ∧ ws ≠ [] ∧ (∀ z ∈ ws, Wd z) ∧ st.nm.length < sizeLine ∧ st.al.length < sizeLine ∧ st.ex.length + ws.length < sizeLine ∧ Res CD CP A H (takeBetween num ws st) Q
theorem scTB : FnScope ["self", "number", "words"] ["self", "number", "words"] (defScope (sDraft 2)) := ⟨rfl, rfl, rfl, by decide +kernel, rfl, by decide +kernel, by decide +kernel⟩
theorem ok_between {f fE fA fO : Addr} {fd fdE fdA fdO : FuncData} (F : Fun K "take_between" "Draft.take_between" (sDraft 2) f fd) (T : TC K CD CP) (M : TM K mg aK)
    (GE : FnOk P w K mg base CX0 2 fE fdE ["self", "names"] (spTakeExports CD CP)) (bE : Binds K fdE ["self", "names"] []) (mE : Meth K CD "take_exports" fE)
    (GA : FnOk P w K mg base CX0 3 fA fdA ["self", "names"] (spTakeAlias CD CP)) (bA : Binds K fdA ["self", "names"] []) (mA : Meth K CD "take_alias" fA)
    (GO : FnOk P w K mg base CX0 3 fO fdO ["self", "number", "words"] (spOpen CD CP)) (bO : Binds K fdO ["self", "number", "words"] []) (mO : Meth K CD "open_piece" fO) : FnOk P w K mg base CX0 4 f fd ["self", "number", "words"] (spBetween CD CP) := by
  refine F.ok scTB (fun vs H Q E h => ?_) (fun cdv A0 outer s H vs Q E hr h => ?_)
  · obtain ⟨A, st, a, num, ws, rfl, _⟩ := h
    rfl
  · obtain ⟨A, st, a, num, ws, rfl, D, hop, ha, na, hne, hw, l1, l2, l3, R⟩ := h
    have hr1 : Room 2 _ := hr.mono (by decide)
    refine ⟨_, pss_cons (ps_if (pt_cmpR op_eq (pe_ix ix_list (pv 2) pe_int (fun _ _ => rfl)) pe_str (nomark _)) (pss_one (ps_ret (pe_meth (pv 0) T.cD mE GE hr1 bE .nil pass0 (pa_cons (pe_slice sl_listS (pv 2) (po_some pe_int) po_none) pa_nil)))) pss_nil)
      (pss_cons (ps_if (pt_cmpR op_eq (pe_ix ix_list (pv 2) pe_int (fun _ _ => rfl)) pe_str (nomark _)) (pss_one (ps_ret (pe_meth (pv 0) T.cD mA GA hr bA .nil pass0 (pa_cons (pe_slice sl_listS (pv 2) (po_some pe_int) po_none) pa_nil)))) pss_nil)
      (pss_one (ps_ret (pe_and (pe_cmpR op_in_seq (pe_ix ix_list (pv 2) pe_int (fun _ _ => rfl)) (pe_glob rfl M.gK (v := .ref aK) rfl) (by rfl)) (pe_one (pe_meth (pv 0) T.cD mO GO hr bO .nil pass0 (pa_cons (pv 1) (pa_cons (pv 2) pa_nil)))))))), ?_⟩
    obtain ⟨w1, rest, rfl⟩ : ∃ w1 rest, ws = w1 :: rest := by
      cases ws with
      | nil => exact absurd rfl hne
      | cons w1 rest => exact ⟨w1, rest, rfl⟩
    obtain ⟨dx, k, n, z, r, e1, e2⟩ := D.ob
    have h0 : ((w1 :: rest).map V.str)[0]? = some (.str w1) := rfl
    have hrest : ∀ z ∈ rest, Wd z := fun z hz => hw z (List.mem_cons_of_mem _ hz)
    have ec : cutV ((w1 :: rest).map V.str) (some 1) none = rest.map V.str := cut_rest _ _
    have l3' : st.ex.length + rest.length < sizeLine := by
      rw [List.length_cons] at l3
      omega
    refine ⟨.ref a, rfl, a, _, 0, _, rfl, rfl, SqL.of ha, atI_nat (j := 0) h0, rfl, _, rfl, ?_⟩
    rw [str_eq]
    refine ite2 (fun h => ?_) (fun h => ?_)
    · have e : w1 = "export" := of_decide_eq_true h
      refine ⟨.ref A.p, rfl, A.p, dx, _, rfl, e1, rfl, .ref a, rfl, 1, rfl, a, _, rfl, SqL.of ha, fun p1 H1 s1 n1 e9 => ⟨A, st, p1, rest, rfl, D.mono s1, by rw [ec] at e9; exact e9, D.free n1, hrest, l3', ?_⟩⟩
      refine (R.here s1).of ?_
      show (if w1 = "export" then _ else _) = _
      rw [if_pos e]
    · have e : ¬ w1 = "export" := fun e => h (decide_eq_true e)
      refine ⟨.ref a, rfl, a, _, 0, _, rfl, rfl, SqL.of ha, atI_nat (j := 0) h0, rfl, _, rfl, ?_⟩
      rw [str_eq]
      refine ite2 (fun h => ?_) (fun h => ?_)
      · have e' : w1 = "alias" := of_decide_eq_true h
        refine ⟨.ref A.p, rfl, A.p, dx, _, rfl, e1, rfl, .ref a, rfl, 1, rfl, a, _, rfl, SqL.of ha, fun p1 H1 s1 n1 e9 => ⟨A, st, p1, rest, rfl, D.mono s1, by rw [ec] at e9; exact e9, D.free n1, hrest, l1, l2, ?_⟩⟩
        refine (R.here s1).of ?_
        show (if w1 = "export" then _ else if w1 = "alias" then _ else _) = _
        rw [if_neg e, if_pos e']
      · have e' : ¬ w1 = "alias" := fun e => h (decide_eq_true e)
        have et : takeBetween num (w1 :: rest) st = if w1 = "func" ∨ w1 = "data" then openPiece num (w1 :: rest) st else none := by
          show (if w1 = "export" then _ else if w1 = "alias" then _ else _) = _
          rw [if_neg e, if_neg e']
        refine ⟨.ref a, rfl, a, _, 0, _, rfl, rfl, SqL.of ha, atI_nat (j := 0) h0, aK, _, rfl, .inr (M.kK.sq H), rfl, by decide, _, rfl, ?_⟩
        rw [show (if false = true then !inV (V.str w1) [.str "func", .str "data"] else inV (V.str w1) [.str "func", .str "data"]) = decide (w1 = "func" ∨ w1 = "data") from kinds_in w1]
        refine ite2 (fun h => ?_) (fun h => ?_)
        · refine ⟨.ref A.p, rfl, A.p, dx, _, rfl, e1, rfl, .int num, rfl, .ref a, rfl, A, st, a, num, w1 :: rest, rfl, D, hop, ha, na, hw, l1, R.of ?_⟩
          rw [et, if_pos (of_decide_eq_true h)]
        · have hf : ¬ (w1 = "func" ∨ w1 = "data") := fun q => h (decide_eq_true q)
          exact R.1 (by rw [et, if_neg hf]) H (Kept.of (Same.refl H))
end
end TX

set_option Elab.async false
set_option linter.all false
set_option maxRecDepth 100000
set_option maxHeartbeats 4000000
/-! A row within a piece. -/
namespace TX
open PySem PySem.Spec PyProof.Rows L2 L2.FK FS
/-- a row more of the open piece -/
theorem DAt.put_rw {CD CP : Addr} {A : AD} {H : Hp} {st : ST} {o : OP} {dr : Addr} {ws : List V} {v : V} {r : MR} (h : DAt CD CP A H st) (ho : st.op = some o) (e4 : A.dr = some dr) (e6 : H dr = some (.lst ws)) (hv : RowAt H r v) :
    DAt CD CP A (upd H dr (.lst (ws ++ [v]))) { st with op := some { o with rows := o.rows ++ [r] } } := by
  obtain ⟨dx, k, n, s, rr, e1, e2⟩ := h.ob
  obtain ⟨vs, e3, e5⟩ := h.dp
  obtain ⟨us, e7, e8⟩ := h.da
  rw [ho] at e2
  obtain ⟨q1, q2, q3, dr', ws', q4, q5, q6, q7, q8, q9⟩ := e2
  rw [e4] at q4
  cases q4
  rw [e6] at q6
  cases q6
  have f : Fix CP H (upd H dr (.lst (ws ++ [v]))) := Fix.lst e6
  exact ⟨⟨dx, k, n, s, rr, by rw [upd_ne (ne_of e1 e6 (by intro z; cases z))]; exact e1, q1, q2, q3, dr, _, e4, q5, upd_same, pair_mono (fun _ _ h => h.mono f) (pair_snoc q7 hv), q8, q9⟩,
    ⟨vs, by rw [upd_ne q8.symm]; exact e3, pair_mono (fun _ _ h => h.mono f) e5⟩, by rw [upd_ne (ne_of h.de e6 (by intro z; cases z))]; exact h.de,
    ⟨us, by rw [upd_ne q9.symm]; exact e7, pair_mono (fun _ _ h => h.mono f) e8⟩, by rw [upd_ne (ne_of h.dn e6 (by intro z; cases z))]; exact h.dn, h.n1, h.n2⟩
theorem ne16 {n : Nat} : decide (V.int ((n : Nat) : Int) = V.int 16) = decide (n = 16) := by
  by_cases h : n = 16
  · subst h; simp
  · rw [decide_eq_false h]
    exact decide_eq_false fun e => h (by have := V.int.inj e; omega)
/-- what reading a row of this kind hands back -/
def RowV (H : Hp) (o : Option MR) (v : V) : Prop := (o = none ∧ v = .non) ∨ ∃ r, o = some r ∧ RowAt H r v ∧ v ≠ .non
section
variable {P : Program} {w : World} {K : PySem.W.Frag} {mg : Str → Option Value} {base : Heap} {aO aR dF CD CP aK : Addr} {es : Array DictEntry} {nF : Nat} {tF : Str → Addr}
/-! ### take_within -/
def spWithin (CD CP : Addr) : Sp := fun vs H Q _ => ∃ A st op a, ∃ ws : List Str, vs = [.ref A.p, .ref a] ∧ DAt CD CP A H st ∧ st.op = some op ∧ H a = some (.lst (ws.map V.str)) ∧ ¬ Foot A a ∧ ws ≠ [] ∧ (∀ z ∈ ws, Wd z) ∧ op.rows.length ≤ 16 ∧ Res CD CP A H (takeWithin ws op st) Q
theorem scTW : FnScope ["self", "words", "row"] ["self", "words"] (defScope (sDraft 7)) := ⟨rfl, rfl, rfl, by decide +kernel, rfl, by decide +kernel, by decide +kernel⟩
theorem ok_within {f fI fD : Addr} {fd fdI fdD : FuncData} (F : Fun K "take_within" "Draft.take_within" (sDraft 7) f fd) (T : TC K CD CP) (M : TM K mg aK) (zl : mg "len" = none)
    (GI : FnOk P w K mg base CX0 4 fI fdI ["words"] (spReadIns K)) (bI : Binds K fdI ["words"] []) (gI : mg "read_instruction" = some (.ref fI)) (kI : PySem.W.keepIn K (.ref fI) = true)
    (GD : FnOk P w K mg base CX0 2 fD fdD ["words"] (spReadDat K)) (bD : Binds K fdD ["words"] []) (gD : mg "read_datum" = some (.ref fD)) (kD : PySem.W.keepIn K (.ref fD) = true) : FnOk P w K mg base CX0 5 f fd ["self", "words"] (spWithin CD CP) := by
  obtain ⟨t16, g16⟩ := M.g16
  refine F.ok scTW (fun vs H Q E h => ?_) (fun cdv A0 outer s H vs Q E hr h => ?_)
  · obtain ⟨A, st, op, a, ws, rfl, _⟩ := h
    rfl
  · obtain ⟨A, st, op, a, ws, rfl, D, hop, ha, na, hne, hw, hl, q0, q1⟩ := h
    have hr2 : Room 2 _ := hr.mono (by decide)
    obtain ⟨dx, k, n, z, r, e1, e2⟩ := D.ob
    rw [hop] at e2
    obtain ⟨y1, y2, y3, dr, rws, y4, y5, y6, y7, y8, y9⟩ := e2
    subst y1 y5
    refine ⟨_, pss_cons (ps_set (i := 2) scTW.nd rfl (.inl rfl) (pe_imp (pe_ifExp (pt_cmpR op_eq (pe_fld (pv 0) rfl) pe_str (nomark _)) (pe_call GI hr rfl gI kI bI .nil pass0 (pa_cons (pv 1) pa_nil)) (pe_call GD hr2 rfl gD kD bD .nil pass0 (pa_cons (pv 1) pa_nil)))
        (t' := fun σ H' Q' => H' = H ∧ σ[0]? = some (some (.ref A.p)) ∧ σ[1]? = some (some (.ref a)) ∧ ∀ H1 v, Same H H1 → RowV H1 (rowOf op.kind ws) v → Q' v H1) (fun σ H' Q' hh => by
          obtain ⟨eH, s0, s1, q⟩ := hh
          subst eH
          refine ⟨.ref A.p, s0, A.p, CD, dx, _, .str op.kind, rfl, e1, T.cD, T.nKind, rfl, rfl, _, rfl, ?_⟩
          rw [str_eq]
          refine ite2 (fun h => ?_) (fun h => ?_)
          · have e : rowOf op.kind ws = (readIns ws).map .ins := by
              unfold rowOf
              rw [if_pos (of_decide_eq_true h)]
            refine ⟨.ref a, s1, a, ws, rfl, SqL.of ha, hne, hw, fun en H1 s1 => q H1 .non s1 (.inl ⟨by rw [e, en]; rfl, rfl⟩), fun xs en H1 p1 s1 n1 e9 => q H1 (.ref p1) s1 (.inr ⟨.ins xs, by rw [e, en]; rfl, ⟨p1, rfl, e9⟩, fun e => nomatch e⟩)⟩
          · have e : rowOf op.kind ws = if readDat ws = .non then none else some (.dat (readDat ws)) := by
              unfold rowOf
              rw [if_neg fun e => h (decide_eq_true e)]
            refine ⟨.ref a, s1, a, ws, rfl, SqL.of ha, hw, fun H1 s1 => q H1 _ s1 ?_⟩
            by_cases hd : readDat ws = .non
            · exact .inl ⟨by rw [e, if_pos hd], hd⟩
            · exact .inr ⟨.dat (readDat ws), by rw [e, if_neg hd], rfl, hd⟩)))
      (pss_cons (ps_if (PW.pt (pw_or (pt_cmp (pc_isN (pv 2))) (pw_or1 (pt_cmpR op_eq (pe_callB call_len_seq (by rfl) zl PySem.boot_len (pa_cons (pe_fld (pv 0) rfl) pa_nil)) (pe_glob rfl g16 (v := .int 16) ⟨_, rfl⟩) (by rfl))))) (pss_one (ps_ret pe_bl)) pss_nil)
      (pss_cons (ps_expr (pe_bm PySem.F.plainAttrs_list PySem.F.slot_list_append PySem.F.type_list_append mt_append (pe_fld (pv 0) rfl) (pa_cons (pv 2) pa_nil)))
      (pss_one (ps_ret pe_bl)))), ?_⟩
    refine ⟨rfl, rfl, rfl, fun H1 v s1 hv => ?_⟩
    have D1 := D.mono s1
    have e1' := s1 _ _ e1
    rcases hv with ⟨en, rfl⟩ | ⟨r, en, hv, hnn⟩
    · refine ⟨.non, rfl, _, rfl, iteT (iteT (q0 ?_ H1 (Kept.of s1)))⟩
      unfold takeWithin
      rw [en]
    · have hnd : decide (v = V.non) = false := decide_eq_false hnn
      refine ⟨v, rfl, _, rfl, ?_⟩
      rw [hnd]
      refine iteF ⟨.ref A.p, rfl, A.p, CD, dx, _, .ref dr, rfl, e1', T.cD, T.nRows, rfl, dr, _, rfl, .inl (SqL.of (s1 _ _ y6)), rfl, _, rfl, ?_⟩
      rw [← y7.length, ne16]
      by_cases h16 : op.rows.length = 16
      · rw [decide_eq_true h16]
        refine iteT (q0 ?_ H1 (Kept.of s1))
        unfold takeWithin
        rw [en]
        show (if op.rows.length = 16 then none else _) = none
        rw [if_pos h16]
      · rw [decide_eq_false h16]
        refine iteF ⟨.ref A.p, rfl, A.p, CD, dx, _, .ref dr, rfl, e1', T.cD, T.nRows, rfl, .inl ⟨rfl, _, SqL.of (s1 _ _ y6)⟩, v, rfl, dr, rws, v, rfl, rfl, s1 _ _ y6, small1000 (by rw [← y7.length]; omega), ?_⟩
        refine q1 _ ?_ _ A ((Kept.of s1).trans (Kept.upd (.inr (.inr (.inr (.inr (.inr y4))))))) (Next.same _ _) (D1.put_rw hop y4 (s1 _ _ y6) hv)
        unfold takeWithin
        rw [en]
        show (if op.rows.length = 16 then none else _) = _
        rw [if_neg h16]
end
end TX

set_option Elab.async false
set_option linter.all false
set_option maxRecDepth 100000
set_option maxHeartbeats 4000000
/-! A piece is made; a text is refused; a piece is closed. -/
namespace TX
open PySem PySem.Spec PyProof.Rows L2 L2.FK FS
section
variable {X : Cx}
theorem call_tupleS : CallR X (.type "tuple") (fun xs H Q => ∃ p ys, xs = [.ref p] ∧ SqL X.K H p ys ∧ ∀ l H', Same H H' → H l = none → H' l = some (.tup ys) → Q (.ref l) H') := fun pins s σ H xs us Q I r ⟨p, ys, e, h, q⟩ =>
  call_tuple_of pins s σ H xs us Q I r ⟨p, ys, e, .inl ⟨h, fun l nl => q l _ (same_new nl) nl upd_same⟩⟩
theorem call_tupDS (hc : X.calm = true) : CallR X (.type "tuple") (fun xs H Q => ∃ p kvs, xs = [.ref p] ∧ H p = some (.dK kvs) ∧ ∀ l H', Same H H' → H l = none → H' l = some (.tup (kvs.map fun kv => kV kv.1)) → Q (.ref l) H') := fun pins s σ H xs us Q I r ⟨p, kvs, e, h, q⟩ =>
  call_tuple_dK hc pins s σ H xs us Q I r ⟨p, kvs, e, h, fun l nl => q l _ (same_new nl) nl upd_same⟩
end
theorem same_none {H H1 : Hp} (s : Same H H1) {b : Addr} (e : H1 b = none) : H b = none := by
  cases q : H b with
  | none => rfl
  | some o => rw [s b o q] at e; cases e
/-! ### the error -/
def spBad (C : Addr) (f : Str) : Sp := fun vs H Q _ => ∃ (a : Addr) (v : V), vs = [.ref a, v] ∧ H a = some (exo a C none) ∧ ∀ H' d, H d = none → d ≠ a → Off a H H' → H' a = some (exo a C (some d)) → H' d = some (exd d [(f, v)]) → Q .non H'
/-- the reading of C(v) in a raise -/
theorem bad_mk {C : Addr} {f : Str} {v : V} {H : Hp} {W : XK} (h : ∀ d H', H d = none → Same H H' → H' d = some (.xd [(f, v)]) → W (.ref C) (some d) H') :
    [v].length ≤ 1000 ∧ ∀ a, H a = none → spBad C f (.ref a :: ([v] ++ [])) (upd H a (exo a C none)) (fun v H2 => v = .non ∧ ∃ (d : Addr) (fs : List (Str × V)), H2 a = some (exo a C (some d)) ∧ H2 d = some (exd d fs) ∧ H d = none ∧ W (.ref C) (some d) (upd (L2.del H2 a) d (.xd fs))) (fun _ _ _ => False) := by
  refine ⟨by simp, fun a na => ⟨a, v, rfl, upd_same, fun H' d nd da off e1 e2 => ⟨rfl, d, _, e1, e2, ?_, ?_⟩⟩⟩
  · rw [upd_ne da] at nd
    exact nd
  · have nd' : H d = none := by
      rw [upd_ne da] at nd
      exact nd
    refine h d _ nd' (fun b o e => ?_) upd_same
    have b1 : b ≠ d := ne_of_none e nd'
    have b2 : b ≠ a := ne_of_none e na
    rw [upd_ne b1, del_ne b2]
    exact off b o b2 (by rw [upd_ne b2]; exact e)
/-- what a refused text leaves: an error with the row -/
def BadOut (CB : Addr) (A : AD) (H : Hp) (v : V) (E : XK) : Prop := ∀ d H', Kept A H H' → H' d = some (.xd [("row", v)]) → E (.ref CB) (some d) H'
/-! ### good rows -/
def Good : MR → Prop
  | .ins xs => (∃ w1 r form, xs = .str w1 :: r ∧ formOf w1 = some form) ∧ (targetOf xs = .non ∨ ∃ t, targetOf xs = .int t)
  | .dat _ => False
theorem DB.put_ps {CD CP : Addr} {A : AD} {H : Hp} {st : ST} {vs : List V} {v : V} {p : MP} (h : DB CD CP A H st) (e3 : H A.dp = some (.lst vs)) (e4 : Paired (PieceAt CP H) st.ps vs) (hv : PieceAt CP H p v) :
    DB CD CP A (upd H A.dp (.lst (vs ++ [v]))) { st with ps := st.ps ++ [p] } := by
  obtain ⟨dx, fs, e1⟩ := h.pi
  obtain ⟨us, e5, e6⟩ := h.da
  have f : Fix CP H (upd H A.dp (.lst (vs ++ [v]))) := Fix.lst e3
  exact ⟨⟨dx, fs, by rw [upd_ne (ne_of e1 e3 (by intro z; cases z))]; exact e1⟩, ⟨_, upd_same, pair_mono (fun _ _ h => h.mono f) (pair_snoc e4 hv)⟩, by rw [upd_ne (ne_of h.de e3 (by intro z; cases z))]; exact h.de,
    ⟨us, by rw [upd_ne h.n1.symm]; exact e5, pair_mono (fun _ _ h => h.mono f) e6⟩, by rw [upd_ne (ne_of h.dn e3 (by intro z; cases z))]; exact h.dn, h.n1, h.n2⟩
theorem pair_get {α : Type} {R : α → V → Prop} : ∀ {xs : List α} {vs : List V} {i : Nat} {v : V}, Paired R xs vs → vs[i]? = some v → ∃ x, xs[i]? = some x ∧ R x v
  | _, _, _, _, .nil, e => by simp at e
  | _, _, 0, _, .cons h t, e => by
    simp at e
    subst e
    exact ⟨_, rfl, h⟩
  | _, _, i + 1, _, .cons h t, e => by
    simp at e
    obtain ⟨x, h1, h2⟩ := pair_get t e
    exact ⟨x, by simpa using h1, h2⟩
abbrev sPieceI : Stmt := inClass (top (TX.o + 10)) 0
abbrev sBadI : Stmt := inClass (top 2) 0
section
variable {P : Program} {w : World} {K : PySem.W.Frag} {mg : Str → Option Value} {base : Heap} {aO aR dF CD CP CB fB aK : Addr} {es : Array DictEntry} {nF : Nat} {tF : Str → Addr}
theorem scBI : FnScope ["self", "row"] ["self", "row"] (defScope sBadI) := ⟨rfl, rfl, rfl, by decide +kernel, rfl, by decide +kernel, by decide +kernel⟩
theorem ok_badI {f C : Addr} {fd : FuncData} (F : Fun K "__init__" "BadText.__init__" sBadI f fd) (E : EC K mg "BadText" C f) (no0 : PySem.W.findIn K (.ref C) "row" = some none) : FnOk P w K mg base CX0 1 f fd ["self", "row"] (spBad C "row") := by
  refine F.ok scBI (fun vs H Q E h => ?_) (fun cdv A outer s H vs Q E1 hr h => ?_)
  · obtain ⟨a, v, rfl, _⟩ := h
    rfl
  · obtain ⟨a, v, rfl, ha, k⟩ := h
    refine ⟨_, pss_one (ps_ost (pv 0) (pv 1)), ?_⟩
    exact ⟨v, rfl, .ref a, rfl, a, C, rfl, E.oex, no0, .inl ⟨ha, fun dx n ne => k _ dx n ne (off_first n) upd_same (by rw [upd_ne ne, upd_same])⟩⟩
/-! ### Piece.__init__ -/
def spPieceI (CP : Addr) : Sp := fun vs H Q _ => ∃ p dx a b c, vs = [.ref p, a, b, c] ∧ H p = some (.ins CP dx []) ∧ ∀ H', Off p H H' → H' p = some (.ins CP dx [("name", a), ("kind", b), ("rows", c)]) → Q .non H'
theorem scPI : FnScope ["self", "name", "kind", "rows"] ["self", "name", "kind", "rows"] (defScope sPieceI) := ⟨rfl, rfl, rfl, by decide +kernel, rfl, by decide +kernel, by decide +kernel⟩
theorem ok_pieceI {f : Addr} {fd : FuncData} (F : Fun K "__init__" "Piece.__init__" sPieceI f fd) (T : TC K CD CP) : FnOk P w K mg base CX0 1 f fd ["self", "name", "kind", "rows"] (spPieceI CP) := by
  refine F.ok scPI (fun vs H Q E h => ?_) (fun cdv A outer s H vs Q E hr h => ?_)
  · obtain ⟨p, dx, a, b, c, rfl, _⟩ := h
    rfl
  · obtain ⟨p, dx, a, b, c, rfl, hp, q⟩ := h
    refine ⟨_, pss_cons (ps_fld (pv 0) (pv 1) rfl) (pss_cons (ps_fld (pv 0) (pv 2) rfl) (pss_one (ps_fld (pv 0) (pv 3) rfl))), ?_⟩
    refine ⟨a, rfl, _, rfl, p, CP, dx, [], rfl, hp, T.cP, T.pName, (by show 0 < 1000; decide), ?_⟩
    refine ⟨b, rfl, _, rfl, p, CP, dx, [("name", a)], rfl, upd_same, T.cP, T.pKind, (by show 1 < 1000; decide), ?_⟩
    refine ⟨c, rfl, _, rfl, p, CP, dx, [("name", a), ("kind", b)], rfl, upd_same, T.cP, T.pRows, (by show 2 < 1000; decide), ?_⟩
    exact q _ (fun b o ne e => by rw [upd_ne ne, upd_ne ne, upd_ne ne]; exact e) upd_same
end
end TX

set_option Elab.async false
set_option linter.all false
set_option maxRecDepth 100000
set_option maxHeartbeats 4000000
/-! A piece is closed. -/
namespace TX
open PySem PySem.Spec PyProof.Rows L2 L2.FK FS
section
variable {P : Program} {w : World} {K : PySem.W.Frag} {mg : Str → Option Value} {base : Heap} {aO aR dF CD CP CB fB aK : Addr} {es : Array DictEntry} {nF : Nat} {tF : Str → Addr}
def spClose (CD CP CB : Addr) : Sp := fun vs H Q E => ∃ A st op, vs = [.ref A.p] ∧ DAt CD CP A H st ∧ st.op = some op ∧ (op.kind = "func" → ∀ r ∈ op.rows, Good r) ∧ op.rows.length ≤ 16 ∧ st.ps.length < sizeLine ∧
  (∀ i, closePiece op st = .error i → BadOut CB A H (.int i) E) ∧ (∀ st', closePiece op st = .ok st' → ∀ H' A', Kept A H H' → Next H A A' → DAt CD CP A' H' st' → Q .non H')
theorem scCL : FnScope ["self", "at", "row", "target"] ["self"] (defScope (sDraft 8)) := ⟨rfl, rfl, rfl, by decide +kernel, rfl, by decide +kernel, by decide +kernel⟩
/-- what the module has for it -/
structure TB (K : PySem.W.Frag) (mg : Str → Option Value) (CP CB fP fB : Addr) : Prop where
  ec : EC K mg "BadText" CB fB
  gP : mg "Piece" = some (.ref CP)
  mP : Mk K CP fP
  zt : mg "tuple" = none
  ze : mg "enumerate" = none
theorem ok_close {f fT fP : Addr} {fd fdT fdP fdB : FuncData} (F : Fun K "close_piece" "Draft.close_piece" (sDraft 8) f fd) (T : TC K CD CP) (B : TB K mg CP CB fP fB) (zl : mg "len" = none)
    (GT : FnOk P w K mg base CX0 1 fT fdT ["row"] (spTarget K)) (bT : Binds K fdT ["row"] []) (gT : mg "target_of" = some (.ref fT)) (kT : PySem.W.keepIn K (.ref fT) = true)
    (GP : FnOk P w K mg base CX0 1 fP fdP ["self", "name", "kind", "rows"] (spPieceI CP)) (bP : Binds K fdP ["self", "name", "kind", "rows"] [])
    (GB : FnOk P w K mg base CX0 1 fB fdB ["self", "row"] (spBad CB "row")) (bB : Binds K fdB ["self", "row"] []) : FnOk P w K mg base (L2.CX P w) 3 f fd ["self"] (spClose CD CP CB) := by
  refine F.okX scCL (fun vs H Q E h => ?_) (fun cdv A0 outer s H vs Q E hr h => ?_)
  · obtain ⟨A, st, op, rfl, _⟩ := h
    rfl
  · obtain ⟨A, st, op, rfl, D, hop, hg, hl, hps, qe, qo⟩ := h
    have hr1 : Room 1 _ := hr.mono (by decide)
    obtain ⟨dx, k, n, z, r, e1, e2⟩ := D.ob
    rw [hop] at e2
    obtain ⟨y1, y2, y3, dr, rws, y4, y5, y6, y7, y8, y9⟩ := e2
    subst y1 y2 y3 y5
    refine ⟨_, pss_cons (ps_if (pt_cmpR op_eq (pe_fld (pv 0) rfl) pe_str (nomark _))
        (pss_one (ps_for (passes_of rfl) rfl (pi_enum (by rfl) B.ze (pa_cons (pe_fld (pv 0) rfl) pa_nil)) (pg_tup rfl (pgs_cons (pg_name (i := 1) scCL.nd rfl (Or.inl rfl)) (pgs_cons (pg_name (i := 2) scCL.nd rfl (Or.inl rfl)) pgs_nil)))
          (pss_cons (ps_set (i := 3) scCL.nd rfl (.inl rfl) (pe_call GT hr1 rfl gT kT bT .nil pass0 (pa_cons (pv 2) pa_nil)))
          (pss_one (ps_if (PW.pt (pw_and (pt_cmp (pc_notN (pv 3))) (pw_and1 (pt_cmpR op_gt (pv 3) (pe_callB call_len_seq (by rfl) zl PySem.boot_len (pa_cons (pe_fld (pv 0) rfl) pa_nil)) (nomark _)))))
            (pss_one (ps_raise rfl (takes_of rfl rfl rfl rfl) (pmk_oex B.ec.oex B.ec.iC B.ec.tI GB hr bB .nil pass0 rfl B.ec.gC (pa_cons (pe_op op_add (pe_fld (pv 0) rfl) (pv 1)) pa_nil)))) pss_nil))))) pss_nil)
      (pss_cons (ps_expr (pe_bm PySem.F.plainAttrs_list PySem.F.slot_list_append PySem.F.type_list_append mt_append (pe_fld (pv 0) rfl) (pa_cons (pe_make B.mP GP hr rfl B.gP bP .nil pass0 (pa_cons (pe_fld (pv 0) rfl) (pa_cons (pe_fld (pv 0) rfl) (pa_cons (pe_callTy call_tupleS (by rfl) B.zt boot_tuple (pa_cons (pe_fld (pv 0) rfl) pa_nil)) pa_nil)))) pa_nil)))
      (pss_one (ps_fld (pv 0) pe_non rfl))), ?_⟩
    refine ⟨.ref A.p, rfl, A.p, CD, dx, _, .str op.kind, rfl, e1, T.cD, T.nKind, rfl, rfl, _, rfl, ?_⟩
    rw [str_eq]
    refine ite2 (fun h => ?caseA) (fun h => ?caseB)
    case' caseA =>
      have hk : op.kind = "func" := of_decide_eq_true h
      refine ⟨.ref A.p, rfl, A.p, CD, dx, _, .ref dr, rfl, e1, T.cD, T.nRows, rfl, dr, _, rfl, SqL.of y6, for_it (walk_enum (xs := rws)) (fun i σ H' => ∃ v1 v2 v3, σ = [some (.ref A.p), v1, v2, v3] ∧ Same H H' ∧ badFrom op.rows.length (op.rows.drop i) (i : Nat) = badFrom op.rows.length op.rows 0)
        ⟨none, none, none, rfl, Same.refl H, by rw [List.drop_zero]; rfl⟩ (fun i σ H' _ ⟨_, _, _, _, s1, _⟩ => s1.seq (SqL.of y6)) ?turn ?done⟩
      case turn =>
        rintro i x0 σ H1 H2 hi ⟨v1, v2, v3, rfl, s1, eb⟩ ⟨T1, x, y, rfl, nT, rfl, hx, hy⟩
        cases hx
        have s2 : Same H (upd H1 T1 (.tup [.int (i : Nat), y])) := s1.trans (same_new nT)
        obtain ⟨r, hri, hrow⟩ := pair_get y7 hy
        have hgr := hg hk r (List.mem_of_getElem? hri)
        have ed : op.rows.drop i = r :: op.rows.drop (i + 1) := by
          rw [List.drop_eq_getElem_cons (List.getElem?_eq_some_iff.mp hri).1]
          rw [(List.getElem?_eq_some_iff.mp hri).2]
        rw [ed] at eb
        cases r with
        | dat d => exact hgr.elim
        | ins xs =>
          obtain ⟨⟨w1, rr, form, exs, hform⟩, ht⟩ := hgr
          obtain ⟨q, ey, eq⟩ := hrow
          subst ey
          have e1' := s2 _ _ e1
          refine ⟨T1, _, rfl, SqT.of upd_same, rfl, _, _, rfl, _, _, rfl, rfl, ?_⟩
          refine ⟨.ref q, rfl, q, xs, w1, rr, form, rfl, SqT.of (s2 _ _ eq), exs, hform, ?_⟩
          refine ⟨targetOf xs, rfl, _, rfl, ?_⟩
          rcases ht with ht | ⟨t, ht⟩
          · rw [ht]
            refine iteF (iteF ⟨_, _, _, rfl, s2, ?_⟩)
            have ng : tooGreat op.rows.length (.ins xs) = false := by
              show (match targetOf xs with | .int t => decide (((op.rows.length : Nat) : Int) < t) | _ => false) = false
              rw [ht]
            rw [← eb]
            show badFrom op.rows.length (op.rows.drop (i + 1)) ((i + 1 : Nat) : Int) = (if tooGreat op.rows.length (.ins xs) = true then _ else _)
            rw [ng, if_neg Bool.false_ne_true]
            congr 1
          · have gt : tooGreat op.rows.length (.ins xs) = decide (((op.rows.length : Nat) : Int) < t) := by
              show (match targetOf xs with | .int t => decide (((op.rows.length : Nat) : Int) < t) | _ => false) = _
              rw [ht]
            have eb' : (if tooGreat op.rows.length (.ins xs) = true then some (i : Int) else badFrom op.rows.length (op.rows.drop (i + 1)) ((i : Int) + 1)) = badFrom op.rows.length op.rows 0 := eb
            rw [ht]
            refine iteT ⟨_, rfl, .ref A.p, rfl, A.p, CD, dx, _, .ref dr, rfl, e1', T.cD, T.nRows, rfl, dr, _, rfl, .inl (SqL.of (s2 _ _ y6)), t, _, rfl, rfl, _, rfl, ?_⟩
            rw [← y7.length]
            refine ite2 (fun hgt => ?_) (fun hgt => ?_)
            · rw [gt, if_pos hgt] at eb'
              refine ⟨.ref A.p, rfl, A.p, CD, dx, _, .int op.start, rfl, e1', T.cD, T.nStart, rfl, .int (i : Nat), rfl, op.start, (i : Nat), rfl, rfl, bad_mk fun d H' nd s3 e9 => ?_⟩
              refine qe (op.start + i) ?_ d H' (Kept.of (s2.trans s3)) e9
              unfold closePiece
              rw [if_pos hk, ← eb']
            · rw [gt, if_neg hgt] at eb'
              refine ⟨_, _, _, rfl, s2, ?_⟩
              rw [← eb']
              congr 1
      case' done =>
        rintro σ H' ⟨v1, v2, v3, rfl, s1, eb⟩
        have ec : closePiece op st = .ok { st with ps := st.ps ++ [⟨op.name, op.kind, op.rows⟩], op := none } := by
          rw [← y7.length, List.drop_length] at eb
          unfold closePiece
          rw [if_pos hk, ← eb]
          rfl
    case' caseB =>
      have s1 : Same H H := Same.refl H
      have ec : closePiece op st = .ok { st with ps := st.ps ++ [⟨op.name, op.kind, op.rows⟩], op := none } := by
        unfold closePiece
        rw [if_neg fun e => h (decide_eq_true e)]
    all_goals
      have e1' := s1 _ _ e1
      obtain ⟨vs, e3, e4⟩ := D.dp
      refine ⟨.ref A.p, rfl, A.p, CD, dx, _, .ref A.dp, rfl, e1', T.cD, T.nPieces, rfl, .inl ⟨rfl, _, SqL.of (s1 _ _ e3)⟩, ?_⟩
      refine ⟨.ref A.p, rfl, A.p, CD, dx, _, .str op.name, rfl, e1', T.cD, T.nName, rfl, ?_⟩
      refine ⟨.ref A.p, rfl, A.p, CD, dx, _, .str op.kind, rfl, e1', T.cD, T.nKind, rfl, ?_⟩
      refine ⟨.ref A.p, rfl, A.p, CD, dx, _, .ref dr, rfl, e1', T.cD, T.nRows, rfl, dr, rws, rfl, SqL.of (s1 _ _ y6), fun t H2 s2 nt et => ?_⟩
      refine fun x dx2 nx ndx nex => ⟨x, dx2, .str op.name, .str op.kind, .ref t, rfl, upd_same, fun H3 off e9 => ⟨rfl, ?_⟩⟩
      have s3 : Same H2 H3 := fun b o e => off b o (ne_of_none e nx) (by rw [upd_ne (ne_of_none e nx), upd_ne (ne_of_none e ndx)]; exact e)
      have s : Same H H3 := (s1.trans s2).trans s3
      have D3 := D.mono s
      have hv : PieceAt CP H3 ⟨op.name, op.kind, op.rows⟩ (.ref x) := ⟨x, dx2, t, rws, rfl, e9, s3 _ _ et, pair_mono (fun _ _ h => h.mono (Fix.of (CP := CP) s)) y7⟩
      have e4' : Paired (PieceAt CP H3) st.ps vs := pair_mono (fun _ _ h => h.mono (Fix.of s)) e4
      refine ⟨A.dp, vs, .ref x, rfl, rfl, s _ _ e3, by rw [← e4.length]; exact hps, ?_⟩
      have B1 := D3.db.put_ps (s _ _ e3) e4' hv
      have npd : A.p ≠ A.dp := ne_of e1 e3 (by intro z; cases z)
      have e7 : (upd H3 A.dp (.lst (vs ++ [.ref x]))) A.p = some (.ins CD dx (dflds A (.str op.kind) (.str op.name) (.int op.start) (.ref dr))) := by
        rw [upd_ne npd]
        exact s _ _ e1
      refine ⟨.ref A.p, rfl, A.p, CD, dx, dflds A (.str op.kind) (.str op.name) (.int op.start) (.ref dr), rfl, e7, T.cD, T.nKind, (by show 8 < 1000; decide), ?_⟩
      have B2 := B1.put (dx' := dx) (fs' := dflds A .non (.str op.name) (.int op.start) (.ref dr)) T.ne e7
      refine qo _ ec _ { A with dr := none } (((Kept.of s).trans (Kept.upd (.inr (.inl rfl)))).trans (Kept.upd (.inl rfl))) ⟨rfl, rfl, rfl, rfl, rfl, fun b hb => nomatch hb⟩ ?_
      exact B2.dAt (dr := none) (op := none) upd_same ⟨rfl, rfl⟩
end
end TX

set_option Elab.async false
set_option linter.all false
set_option maxRecDepth 100000
set_option maxHeartbeats 4000000
/-! What stays true of a draft, row by row. -/
namespace TX
open PySem PySem.Spec PyProof.Rows L2 L2.FK FS
def StOk (st : ST) : Prop := ∀ op, st.op = some op → op.rows.length ≤ 16 ∧ (op.kind = "func" → ∀ r ∈ op.rows, Good r)
def wt (st : ST) : Nat := st.ps.length + st.ex.length + st.al.length + st.nm.length
abbrev TO1 : List Str := ["to"]
abbrev TO3 : List Str := ["reg", "reg", "to"]
theorem forms_to : ∀ p ∈ FORM, p.2.contains "to" = true → p.2 = TO1 ∨ p.2 = TO3 := by decide +kernel
theorem to_int (z : Str) : readPart z "to" = optI (readInt z) := by
  unfold readPart
  rw [if_neg (by decide +kernel), if_neg (by decide +kernel)]
theorem readIns_good {ws : List Str} {xs : List V} (h : readIns ws = some xs) : Good (.ins xs) := by
  cases ws with
  | nil => cases h
  | cons w1 rest =>
    cases hf : formOf w1 with
    | none => rw [readIns_none hf] at h; cases h
    | some form =>
      rw [readIns_some hf] at h
      split at h
      · cases h
      · rename_i hlen
        split at h
        · cases h
        · rename_i hany
          obtain rfl : V.str w1 :: List.zipWith readPart rest form = xs := Option.some.inj h
          have hrl : rest.length = form.length := by
            have : (w1 :: rest).length = form.length + 1 := Classical.not_not.mp hlen
            simpa using this
          refine ⟨⟨w1, _, form, rfl, hf⟩, ?_⟩
          have et : targetOf (V.str w1 :: List.zipWith readPart rest form) = if form.contains "to" = true then (V.str w1 :: List.zipWith readPart rest form).getLast?.getD .non else .non := by
            simp only [targetOf, hf]
          rw [et]
          by_cases hto : form.contains "to" = true
          · rw [if_pos hto]
            have hno : ∀ v ∈ List.zipWith readPart rest form, v ≠ V.non := fun v hv e => hany (List.any_eq_true.mpr ⟨v, hv, decide_eq_true e⟩)
            have fin : ∀ z, readPart z "to" ≠ V.non → ∃ t, readPart z "to" = V.int t := fun z hz => by
              rw [to_int] at hz ⊢
              cases q : readInt z with
              | none => rw [q] at hz; exact absurd rfl hz
              | some i => exact ⟨i, rfl⟩
            rcases forms_to (w1, form) (PySem.mem_of_lookup hf) hto with e | e
            · have e : form = TO1 := e
              subst e
              match rest, hrl, hno with
              | [z], _, hno => exact .inr (fin z (hno _ (by simp)))
            · have e : form = TO3 := e
              subst e
              match rest, hrl, hno with
              | [x, y, z], _, hno => exact .inr (fin z (hno _ (by simp)))
          · rw [if_neg hto]
            exact .inl rfl
theorem exportsGo_op : ∀ {ws : List Str} {st st' : ST}, exportsGo ws st = some st' → st'.op = st.op ∧ wt st' = wt st + ws.length
  | [], st, st', h => by cases h; exact ⟨rfl, rfl⟩
  | z :: r, st, st', h => by
    unfold exportsGo at h
    split at h
    · obtain ⟨h1, h2⟩ := exportsGo_op h
      refine ⟨h1, ?_⟩
      rw [h2, List.length_cons]
      unfold wt
      show st.ps.length + (st.ex ++ [z]).length + st.al.length + st.nm.length + r.length = _
      rw [List.length_append, List.length_singleton]
      omega
    · cases h
theorem takeName_wt {z : Str} {st st1 : ST} (h : takeName z st = some st1) : wt st1 = wt st + 1 := by
  unfold takeName at h
  split at h
  · cases h
    unfold wt
    show st.ps.length + st.ex.length + st.al.length + (st.nm ++ [z]).length = _
    rw [List.length_append, List.length_singleton]
    omega
  · cases h
theorem between_ok {num : Int} {ws : List Str} {st st' : ST} (h : takeBetween num ws st = some st') (ho : st.op = none) : StOk st' ∧ wt st' ≤ wt st + ws.length := by
  cases ws with
  | nil => cases h
  | cons w1 rest =>
    have h : (if w1 = "export" then takeExports rest st else if w1 = "alias" then takeAlias rest st else if w1 = "func" ∨ w1 = "data" then openPiece num (w1 :: rest) st else none) = some st' := h
    split at h
    · unfold takeExports at h
      split at h
      · cases h
      · obtain ⟨h1, h2⟩ := exportsGo_op h
        exact ⟨fun op e => (by rw [h1, ho] at e; cases e), by rw [h2, List.length_cons]; omega⟩
    · split at h
      · match rest, h with
        | [x, y], h =>
          have h : (if isName y = true then (takeName x st).map fun s => { s with al := s.al ++ [(x, y)] } else none) = some st' := h
          split at h
          · cases q : takeName x st with
            | none => rw [q] at h; cases h
            | some s1 =>
              rw [q] at h
              cases h
              refine ⟨fun op e => ?_, ?_⟩
              · have := (takeName_op q).1
                rw [ho] at this
                rw [show s1.op = some op from e] at this
                cases this
              · have e1 := takeName_wt q
                show s1.ps.length + s1.ex.length + (s1.al ++ [(x, y)]).length + s1.nm.length ≤ wt st + 3
                unfold wt at e1 ⊢
                rw [List.length_append, List.length_singleton]
                omega
          · cases h
      · split at h
        · match rest, h with
          | [n], h =>
            have h : (if st.ps.length = 12 then none else (takeName n st).map fun s => { s with op := some ⟨w1, n, num + 1, []⟩ }) = some st' := h
            split at h
            · cases h
            · cases q : takeName n st with
              | none => rw [q] at h; cases h
              | some s1 =>
                rw [q] at h
                cases h
                refine ⟨fun op e => ?_, ?_⟩
                · have e : some (OP.mk w1 n (num + 1) []) = some op := e
                  cases e
                  exact ⟨by simp, fun _ r hr => by cases hr⟩
                · have e1 := takeName_wt q
                  show wt s1 ≤ wt st + 2
                  omega
        · cases h
theorem within_ok {ws : List Str} {op : OP} {st st' : ST} (h : takeWithin ws op st = some st') (ho : st.op = some op) (hs : StOk st) : StOk st' ∧ wt st' = wt st := by
  unfold takeWithin at h
  split at h
  · cases h
  · rename_i r hr
    split at h
    · cases h
    · rename_i h16
      cases h
      obtain ⟨h1, h2⟩ := hs op ho
      refine ⟨fun op' e => ?_, rfl⟩
      have e : some { op with rows := op.rows ++ [r] } = some op' := e
      cases e
      refine ⟨?_, fun hk x hx => ?_⟩
      · show (op.rows ++ [r]).length ≤ 16
        rw [List.length_append, List.length_singleton]
        omega
      · rcases List.mem_append.mp hx with hx | hx
        · exact h2 hk x hx
        · have hx : x = r := by simpa using hx
          subst hx
          unfold rowOf at hr
          rw [if_pos hk] at hr
          cases q : readIns ws with
          | none => rw [q] at hr; cases hr
          | some xs => rw [q] at hr; cases hr; exact readIns_good q
theorem close_ok {op : OP} {st st' : ST} (h : closePiece op st = .ok st') : StOk st' ∧ wt st' = wt st + 1 := by
  unfold closePiece at h
  split at h
  · cases h
  · cases h
    refine ⟨fun op' e => (nomatch e), ?_⟩
    show (st.ps ++ [_]).length + st.ex.length + st.al.length + st.nm.length = _
    rw [List.length_append, List.length_singleton]
    unfold wt
    omega
theorem takeRow_ok {num : Int} {ws : List Str} {st st' : ST} (hne : ws ≠ []) (h : takeRow num ws st = .ok st') (hs : StOk st) : StOk st' ∧ wt st' ≤ wt st + ws.length := by
  have h1 : 1 ≤ ws.length := List.length_pos_iff.mpr hne
  unfold takeRow at h
  split at h
  · rename_i ho
    split at h
    · rename_i s q
      cases h
      exact between_ok q ho
    · cases h
  · rename_i op ho
    split at h
    · obtain ⟨a, b⟩ := close_ok h
      exact ⟨a, by omega⟩
    · split at h
      · rename_i s q
        cases h
        obtain ⟨a, b⟩ := within_ok q ho hs
        exact ⟨a, by omega⟩
      · cases h
end TX

set_option Elab.async false
set_option linter.all false
set_option maxRecDepth 100000
set_option maxHeartbeats 4000000
/-! A draft takes a row. -/
namespace TX
open PySem PySem.Spec PyProof.Rows L2 L2.FK FS
theorem Dp.strs {K : PySem.W.Frag} {H : Hp} : ∀ ws : List Str, DpAll K H (ws.map V.str) (ws.map PyData.str)
  | [] => .nil
  | z :: r => .cons (.str z) (Dp.strs r)
theorem eqv_strs : ∀ a b : List Str, PyData.eqv (.list (a.map PyData.str)) (.list (b.map PyData.str)) = decide (a = b) := by
  intro a b
  have key : ∀ a b : List Str, PyData.eqvAll (a.map PyData.str) (b.map PyData.str) = decide (a = b) := by
    intro a
    induction a with
    | nil => intro b; cases b <;> simp [PyData.eqvAll]
    | cons x r ih =>
      intro b
      cases b with
      | nil => simp [PyData.eqvAll]
      | cons y q =>
        simp only [List.map_cons, PyData.eqvAll, ih]
        by_cases e : x = y
        · subst e; simp [PyData.eqv]
        · simp [PyData.eqv, e]
  simp only [PyData.eqv, key]
theorem shaped_strs (a : List Str) (ha : ∀ z ∈ a, PyData.strOk z = true) : SeqAt.shaped (.list (a.map PyData.str)) = true := by
  have k1 : ∀ a : List Str, (∀ z ∈ a, PyData.strOk z = true) → PyData.canLayAll0 (a.map PyData.str) = true := by
    intro a
    induction a with
    | nil => simp [PyData.canLayAll0]
    | cons x r ih => intro h; simp [PyData.canLayAll0, PyData.canLay0, ih (fun z hz => h z (List.mem_cons_of_mem _ hz)), h x (List.mem_cons_self ..)]
  have k2 : ∀ a : List Str, PyData.depthAll (a.map PyData.str) = 0 := by
    intro a
    induction a with
    | nil => simp [PyData.depthAll]
    | cons x r ih => simp [PyData.depthAll, PyData.depth, ih]
  simp [SeqAt.shaped, PyData.canLay0, PyData.depth, k1 a ha, k2]
section
variable {P : Program} {w : World} {K : PySem.W.Frag} {mg : Str → Option Value} {base : Heap} {aO aR dF CD CP CB fB aK : Addr} {es : Array DictEntry} {nF : Nat} {tF : Str → Addr}
def spTake (CD CP CB : Addr) : Sp := fun vs H Q E => ∃ A st num a, ∃ ws : List Str, vs = [.ref A.p, .int num, .ref a] ∧ DAt CD CP A H st ∧ H a = some (.lst (ws.map V.str)) ∧ ¬ Foot A a ∧ ws ≠ [] ∧ (∀ z ∈ ws, Wd z) ∧ (∀ z ∈ ws, PyData.strOk z = true) ∧ StOk st ∧ wt st + ws.length < sizeLine ∧
  (∀ i, takeRow num ws st = .error i → BadOut CB A H (.int i) E) ∧ (∀ st', takeRow num ws st = .ok st' → ∀ H' A', Kept A H H' → Next H A A' → DAt CD CP A' H' st' → Q .non H')
theorem scT : FnScope ["self", "number", "words", "right"] ["self", "number", "words"] (defScope (sDraft 1)) := ⟨rfl, rfl, rfl, by decide +kernel, rfl, by decide +kernel, by decide +kernel⟩
theorem ok_take {f fBt fW fC fP : Addr} {fd fdBt fdW fdC fdB : FuncData} (F : Fun K "take" "Draft.take" (sDraft 1) f fd) (T : TC K CD CP) (B : TB K mg CP CB fP fB)
    (GBt : FnOk P w K mg base CX0 4 fBt fdBt ["self", "number", "words"] (spBetween CD CP)) (bBt : Binds K fdBt ["self", "number", "words"] []) (mBt : Meth K CD "take_between" fBt)
    (GW : FnOk P w K mg base CX0 5 fW fdW ["self", "words"] (spWithin CD CP)) (bW : Binds K fdW ["self", "words"] []) (mW : Meth K CD "take_within" fW)
    (GC : FnOk P w K mg base (L2.CX P w) 3 fC fdC ["self"] (spClose CD CP CB)) (bC : Binds K fdC ["self"] []) (mC : Meth K CD "close_piece" fC)
    (GB : FnOk P w K mg base CX0 1 fB fdB ["self", "row"] (spBad CB "row")) (bB : Binds K fdB ["self", "row"] []) : FnOk P w K mg base (L2.CX P w) 6 f fd ["self", "number", "words"] (spTake CD CP CB) := by
  refine F.okX scT (fun vs H Q E h => ?_) (fun cdv A0 outer s H vs Q E hr h => ?_)
  · obtain ⟨A, st, num, a, ws, rfl, _⟩ := h
    rfl
  · obtain ⟨A, st, num, a, ws, rfl, D, ha, na, hne, hw, hok, hs, hwt, qe, qo⟩ := h
    have hr3 : Room 3 _ := hr.mono (by decide)
    have hr4 : Room 4 _ := hr.mono (by decide)
    have hr2 : Room 2 _ := hr.mono (by decide)
    refine ⟨_, pss_cons (ps_if (pt_cmp (pc_isN (pe_fld (pv 0) rfl)))
        (pss_one (ps_set (i := 3) scT.nd rfl (.inl rfl) (pe_meth (pv 0) T.cD mBt GBt hr4 bBt .nil pass0 (pa_cons (pv 1) (pa_cons (pv 2) pa_nil)))))
        (pss_one (ps_if (pt_cmpR (op_eqD hr.units) (pv 2) (pe_lstS (pa_cons pe_str pa_nil)) (nomark _))
          (pss_cons (ps_expr (pe_meth0 (pv 0) T.cD mC GC hr3 bC .nil (passes_call (takes_of rfl rfl rfl rfl) (fun _ _ _ _ h => h)))) (pss_one (ps_set (i := 3) scT.nd rfl (.inl rfl) pe_bl)))
          (pss_one (ps_set (i := 3) scT.nd rfl (.inl rfl) (pe_meth (pv 0) T.cD mW GW hr bW .nil pass0 (pa_cons (pv 2) pa_nil)))))))
      (pss_one (ps_if (pt_not (pt_val (pv 3))) (pss_one (ps_raise rfl (takes_of rfl rfl rfl rfl) (pmk_oex B.ec.oex B.ec.iC B.ec.tI GB hr2 bB .nil pass0 rfl B.ec.gC (pa_cons (pv 1) pa_nil)))) pss_nil)), ?_⟩
    obtain ⟨dx, k, n, z, r, e1, e2⟩ := D.ob
    have l1 : st.nm.length < sizeLine := by unfold wt at hwt; omega
    have l2 : st.al.length < sizeLine := by unfold wt at hwt; omega
    have l3 : st.ex.length + ws.length < sizeLine := by unfold wt at hwt; omega
    have l4 : st.ps.length < sizeLine := by unfold wt at hwt; omega
    refine ⟨.ref A.p, rfl, A.p, CD, dx, _, k, rfl, e1, T.cD, T.nKind, rfl, _, rfl, ?_⟩
    cases ho : st.op with
    | none =>
      rw [ho] at e2
      have ek : k = .non := e2.1
      subst ek
      have er : takeRow num ws st = (match takeBetween num ws st with | some s => .ok s | none => .error num) := by
        unfold takeRow
        rw [ho] <;> rfl
      refine iteT ⟨.ref A.p, rfl, A.p, dx, _, rfl, e1, rfl, .int num, rfl, .ref a, rfl, A, st, a, num, ws, rfl, D, ho, ha, na, hne, hw, l1, l2, l3, fun en H' k' => ?_, fun st' en H' A' k' n' D' => ?_⟩
      · refine ⟨_, rfl, _, rfl, iteT ⟨.int num, rfl, bad_mk fun d H2 nd s2 e9 => qe num (by rw [er, en]) d H2 (k'.trans (Kept.of s2)) e9⟩⟩
      · exact ⟨_, rfl, _, rfl, iteF (qo st' (by rw [er, en]) H' A' k' n' D')⟩
    | some op =>
      rw [ho] at e2
      have ek : k = .str op.kind := e2.1
      subst ek
      refine iteF ?_
      refine ⟨.ref a, rfl, by simp, fun p1 H1 s1 n1 e9 => ?_⟩
      refine ⟨.list (ws.map PyData.str), .list ([("end" : Str)].map PyData.str), .lst (SqL.of (s1 _ _ ha)) (Dp.strs ws), .lst (SqL.of e9) (Dp.strs [("end" : Str)]), shaped_strs _ hok, shaped_strs _ (by decide +kernel), _, rfl, ?_⟩
      rw [eqv_strs]
      have D1 := D.mono s1
      have e1' := s1 _ _ e1
      refine ite2 (fun h => ?_) (fun h => ?_)
      · have hend : ws = [("end" : Str)] := of_decide_eq_true h
        have er : takeRow num ws st = closePiece op st := by
          unfold takeRow
          rw [ho]
          show (if ws = [("end" : Str)] then _ else _) = _
          rw [if_pos hend]
        refine ⟨.ref A.p, rfl, A.p, dx, _, rfl, e1', rfl, A, st, op, rfl, D1, ho, (hs op ho).2, (hs op ho).1, l4, fun i en d H' k' e9 => ?_, fun st' en H' A' k' n' D' => ?_⟩
        · exact qe i (by rw [er, en]) d H' ((Kept.of s1).trans k') e9
        · exact ⟨_, rfl, _, rfl, iteF (qo st' (by rw [er, en]) H' A' ((Kept.of s1).trans k') (n'.here s1) D')⟩
      · have hend : ¬ ws = [("end" : Str)] := fun e => h (decide_eq_true e)
        have er : takeRow num ws st = (match takeWithin ws op st with | some s => .ok s | none => .error num) := by
          unfold takeRow
          rw [ho]
          show (if ws = [("end" : Str)] then _ else _) = _
          rw [if_neg hend] <;> rfl
        refine ⟨.ref A.p, rfl, A.p, dx, _, rfl, e1', rfl, .ref a, rfl, A, st, op, a, ws, rfl, D1, ho, s1 _ _ ha, na, hne, hw, (hs op ho).1, fun en H' k' => ?_, fun st' en H' A' k' n' D' => ?_⟩
        · refine ⟨_, rfl, _, rfl, iteT ⟨.int num, rfl, bad_mk fun d H2 nd s2 e9 => qe num (by rw [er, en]) d H2 (((Kept.of s1).trans k').trans (Kept.of s2)) e9⟩⟩
        · exact ⟨_, rfl, _, rfl, iteF (qo st' (by rw [er, en]) H' A' ((Kept.of s1).trans k') (n'.here s1) D')⟩
end
end TX

set_option Elab.async false
set_option linter.all false
set_option maxRecDepth 100000
set_option maxHeartbeats 4000000
/-! A draft and a module are made. -/
namespace TX
open PySem PySem.Spec PyProof.Rows L2 L2.FK FS
section
variable {P : Program} {w : World} {K : PySem.W.Frag} {mg : Str → Option Value} {base : Heap} {aO aR dF CD CP CM CB fB aK : Addr} {es : Array DictEntry} {nF : Nat} {tF : Str → Addr}
/-! ### Draft.__init__ -/
def spDraftI (CD CP : Addr) : Sp := fun vs H Q _ => ∃ p dx, vs = [.ref p] ∧ H p = some (.ins CD dx []) ∧ ∀ A H', A.p = p → A.dr = none → Off p H H' → H A.dp = none → H A.de = none → H A.da = none → H A.dn = none → DAt CD CP A H' st0 → Q .non H'
theorem scDI : FnScope ["self"] ["self"] (defScope (sDraft 0)) := ⟨rfl, rfl, rfl, by decide +kernel, rfl, by decide +kernel, by decide +kernel⟩
theorem ok_draftI {f : Addr} {fd : FuncData} (F : Fun K "__init__" "Draft.__init__" (sDraft 0) f fd) (T : TC K CD CP) : FnOk P w K mg base CX0 1 f fd ["self"] (spDraftI CD CP) := by
  refine F.ok scDI (fun vs H Q E h => ?_) (fun cdv A outer s H vs Q E hr h => ?_)
  · obtain ⟨p, dx, rfl, _⟩ := h
    rfl
  · obtain ⟨p, dx, rfl, hp, q⟩ := h
    refine ⟨_, pss_cons (ps_fld (pv 0) (pe_lstS pa_nil) rfl) (pss_cons (ps_fld (pv 0) pe_dictS rfl) (pss_cons (ps_fld (pv 0) (pe_lstS pa_nil) rfl) (pss_cons (ps_fld (pv 0) pe_dictS rfl)
      (pss_cons (ps_fld (pv 0) pe_non rfl) (pss_cons (ps_fld (pv 0) pe_non rfl) (pss_cons (ps_fld (pv 0) pe_int rfl) (pss_one (ps_fld (pv 0) (pe_lstS pa_nil) rfl)))))))), ?_⟩
    refine ⟨by simp, fun dp H1 s1 n1 e1 => ⟨_, rfl, p, CD, dx, [], rfl, s1 _ _ hp, T.cD, T.nPieces, (by show 0 < 1000; decide), ?_⟩⟩
    have pdp : dp ≠ p := (ne_of_none hp n1).symm
    refine fun de H2 s2 n2 e2 => ⟨_, rfl, p, CD, dx, [("pieces", .ref dp)], rfl, s2 _ _ upd_same, T.cD, T.nExports, (by show 1 < 1000; decide), ?_⟩
    have pde : de ≠ p := fun e => by rw [e, upd_same] at n2; cases n2
    refine ⟨by simp, fun da H3 s3 n3 e3 => ⟨_, rfl, p, CD, dx, [("pieces", .ref dp), ("exports", .ref de)], rfl, s3 _ _ upd_same, T.cD, T.nAliases, (by show 2 < 1000; decide), ?_⟩⟩
    have pda : da ≠ p := fun e => by rw [e, upd_same] at n3; cases n3
    refine fun dn H4 s4 n4 e4 => ⟨_, rfl, p, CD, dx, [("pieces", .ref dp), ("exports", .ref de), ("aliases", .ref da)], rfl, s4 _ _ upd_same, T.cD, T.nNamed, (by show 3 < 1000; decide), ?_⟩
    have pdn : dn ≠ p := fun e => by rw [e, upd_same] at n4; cases n4
    refine ⟨_, rfl, p, CD, dx, [("pieces", .ref dp), ("exports", .ref de), ("aliases", .ref da), ("named", .ref dn)], rfl, upd_same, T.cD, T.nKind, (by show 4 < 1000; decide), ?_⟩
    refine ⟨_, rfl, p, CD, dx, [("pieces", .ref dp), ("exports", .ref de), ("aliases", .ref da), ("named", .ref dn), ("kind", .non)], rfl, upd_same, T.cD, T.nName, (by show 5 < 1000; decide), ?_⟩
    refine ⟨_, rfl, p, CD, dx, [("pieces", .ref dp), ("exports", .ref de), ("aliases", .ref da), ("named", .ref dn), ("kind", .non), ("name", .non)], rfl, upd_same, T.cD, T.nStart, (by show 6 < 1000; decide), ?_⟩
    refine ⟨by simp, fun dr H5 s5 n5 e5 => ⟨_, rfl, p, CD, dx, [("pieces", .ref dp), ("exports", .ref de), ("aliases", .ref da), ("named", .ref dn), ("kind", .non), ("name", .non), ("start", .int 0)], rfl, s5 _ _ upd_same, T.cD, T.nRows, (by show 7 < 1000; decide), ?_⟩⟩
    -- where each thing stands
    have st5 : ∀ {b : Addr} {o : HO}, b ≠ p → H4 b = some o → H5 b = some o := fun {b o} hb e => s5 _ _ (by rw [upd_ne hb, upd_ne hb, upd_ne hb, upd_ne hb]; exact e)
    have st4 : ∀ {b : Addr} {o : HO}, b ≠ p → H3 b = some o → H4 b = some o := fun {b o} hb e => s4 _ _ (by rw [upd_ne hb]; exact e)
    have st3 : ∀ {b : Addr} {o : HO}, b ≠ p → H2 b = some o → H3 b = some o := fun {b o} hb e => s3 _ _ (by rw [upd_ne hb]; exact e)
    have st2 : ∀ {b : Addr} {o : HO}, b ≠ p → H1 b = some o → H2 b = some o := fun {b o} hb e => s2 _ _ (by rw [upd_ne hb]; exact e)
    have m2 : ∀ {b : Addr}, b ≠ p → upd H1 p (.ins CD dx (putF "pieces" (.ref dp) [])) b = none → H b = none := fun {b} hb e => by
      rw [upd_ne hb] at e
      exact same_none s1 e
    have m3 : ∀ {b : Addr}, b ≠ p → H2 b = none → H b = none := fun {b} hb e => m2 hb (same_none s2 e)
    have m4 : ∀ {b : Addr}, b ≠ p → H3 b = none → H b = none := fun {b} hb e => m3 hb (by
      have := same_none s3 e
      rw [upd_ne hb] at this
      exact this)
    have x3 : H2 da = none := by rw [upd_ne pda] at n3; exact n3
    have x4 : H3 dn = none := by rw [upd_ne pdn] at n4; exact n4
    refine q ⟨p, dp, de, da, dn, none⟩ _ rfl rfl ?_ n1 (m2 pde n2) (m3 pda x3) (m4 pdn x4) ?_
    · intro b o hb e
      rw [upd_ne hb]
      exact st5 hb (st4 hb (st3 hb (st2 hb (s1 _ _ e))))
    · refine ⟨⟨dx, .non, .non, .int 0, .ref dr, upd_same, rfl, rfl⟩, ⟨[], ?_, .nil⟩, ?_, ⟨[], ?_, .nil⟩, ?_, ?_, ?_⟩
      · rw [upd_ne pdp]
        exact st5 pdp (st4 pdp (st3 pdp (st2 pdp e1)))
      · rw [upd_ne pde]
        exact st5 pde (st4 pde (st3 pde e2))
      · rw [upd_ne pda]
        exact st5 pda (st4 pda e3)
      · rw [upd_ne pdn]
        exact st5 pdn e4
      · intro e
        have e : dp = da := e
        have := st2 pdp e1
        rw [e, x3] at this
        cases this
      · intro e
        have e : de = dn := e
        have := st3 pde e2
        rw [e, x4] at this
        cases this
end
end TX

set_option Elab.async false
set_option linter.all false
set_option maxRecDepth 100000
set_option maxHeartbeats 4000000
/-! A module is made. -/
namespace TX
open PySem PySem.Spec PyProof.Rows L2 L2.FK FS
abbrev sModI : Stmt := inClass (top (TX.o + 11)) 0
structure TMd (K : PySem.W.Frag) (CM : Addr) : Prop where
  cM : Cls K CM
  nPieces : NoAttr K CM "pieces"
  nExports : NoAttr K CM "exports"
  nAliases : NoAttr K CM "aliases"
  nNamed : NoAttr K CM "_named"
/-- the dict's keys are the names zs -/
def NamedOk (kvs : List (Key × V)) (zs : List Str) : Prop := ∀ z, (valV kvs (Sum.inr z : Key)).isSome = zs.contains z
theorem NamedOk.put {kvs : List (Key × V)} {zs : List Str} {z : Str} {v : V} (h : NamedOk kvs zs) : NamedOk (putK kvs (Sum.inr z : Key) v) (zs ++ [z]) := by
  intro y
  rw [valV_put]
  by_cases e : y = z
  · subst e
    rw [if_pos rfl]
    simp
  · have ne : ¬ (Sum.inr y : Key) = Sum.inr z := fun q => e (Sum.inr.inj q)
    rw [if_neg ne, h y]
    have : ([z] : List Str).contains y = false := by simpa using e
    rw [List.contains_append, this, Bool.or_false]
theorem putK_len (kvs : List (Key × V)) (k : Key) (v : V) : (putK kvs k v).length ≤ kvs.length + 1 := by
  unfold putK
  split
  · rw [List.length_map]; omega
  · rw [List.length_append, List.length_singleton]
    exact Nat.le_refl _
theorem pair_get' {α : Type} {R : α → V → Prop} {xs : List α} {vs : List V} {i : Nat} {v : V} (h : Paired R xs vs) (e : vs[i]? = some v) : ∃ x, xs[i]? = some x ∧ xs.take (i + 1) = xs.take i ++ [x] ∧ R x v := by
  obtain ⟨x, h1, h2⟩ := pair_get h e
  refine ⟨x, h1, ?_, h2⟩
  rw [List.take_add_one, h1]
  rfl
def mflds (tp e ta nd : V) : List (Str × V) := [("pieces", tp), ("exports", e), ("aliases", ta), ("_named", nd)]
section
variable {P : Program} {w : World} {K : PySem.W.Frag} {mg : Str → Option Value} {base : Heap} {aO aR dF CD CP CM CB fB aK : Addr} {es : Array DictEntry} {nF : Nat} {tF : Str → Addr}
def spModI (CM CP : Addr) : Sp := fun vs H Q _ => ∃ p dx tp ta ev, ∃ (ps : List MP) (pvs : List V) (al : List (Str × Str)) (avs : List V), vs = [.ref p, .ref tp, ev, .ref ta] ∧ H p = some (.ins CM dx []) ∧ H tp = some (.tup pvs) ∧ Paired (PieceAt CP H) ps pvs ∧ H ta = some (.tup avs) ∧ Paired (AliAt H) al avs ∧
  ps.length + al.length < sizeLine ∧ ∀ H' nd kvs, Off p H H' → H nd = none → H' p = some (.ins CM dx (mflds (.ref tp) ev (.ref ta) (.ref nd))) → H' nd = some (.dK kvs) → NamedOk kvs (ps.map (·.name) ++ al.map (·.1)) → Q .non H'
theorem scM : FnScope ["self", "pieces", "exports", "aliases", "piece", "name", "_"] ["self", "pieces", "exports", "aliases"] (defScope sModI) := ⟨rfl, rfl, rfl, by decide +kernel, rfl, by decide +kernel, by decide +kernel⟩
theorem ok_modI {f : Addr} {fd : FuncData} (F : Fun K "__init__" "Module.__init__" sModI f fd) (T : TC K CD CP) (M : TMd K CM) (neM : CP ≠ CM) : FnOk P w K mg base CX0 1 f fd ["self", "pieces", "exports", "aliases"] (spModI CM CP) := by
  refine F.ok scM (fun vs H Q E h => ?_) (fun cdv A outer s H vs Q E hr h => ?_)
  · obtain ⟨p, dx, tp, ta, ev, ps, pvs, al, avs, rfl, _⟩ := h
    rfl
  · obtain ⟨p, dx, tp, ta, ev, ps, pvs, al, avs, rfl, hp, htp, hps, hta, hal, hl, q⟩ := h
    have hu := hu_of hr
    refine ⟨_, pss_cons (ps_fld (pv 0) (pv 1) rfl) (pss_cons (ps_fld (pv 0) (pv 2) rfl) (pss_cons (ps_fld (pv 0) (pv 3) rfl)
      (pss_cons (ps_fld (pv 0) (pe_dc (own := [("piece", 4)]) (g := gName 4) (tt := tYes) (tk := tFld K (tVar 4) "name") (tv := tC (.bl true)) rfl scM.nd (pi_tup (pv 1)) (blkOk_by (N := ["self", "pieces", "exports", "aliases", "piece", "name", "_"]) (sc := defScope sModI) (by decide +kernel)) (fun _ _ _ _ _ => pg_name (i := 4) scM.nd rfl (Or.inl rfl)) (fun _ _ _ _ _ => pts_nil)
          (fun _ _ _ _ _ => pe_fld (pv 4) rfl) (fun _ _ _ _ _ => pe_bl) (by intro _; rfl)) rfl)
      (pss_one (ps_for PassesOwn.never rfl (pi_tup (pv 3)) (pg_tup rfl (pgs_cons (pg_name (i := 5) scM.nd rfl (Or.inl rfl)) (pgs_cons (pg_name (i := 6) scM.nd rfl (Or.inl rfl)) pgs_nil)))
        (pss_one (ps_dput hu (pe_fld (pv 0) rfl) (pv 5) pe_bl rfl))))))), ?_⟩
    refine ⟨.ref tp, rfl, _, rfl, p, CM, dx, [], rfl, hp, M.cM, M.nPieces, (by show 0 < 1000; decide), ?_⟩
    refine ⟨ev, rfl, _, rfl, p, CM, dx, [("pieces", .ref tp)], rfl, upd_same, M.cM, M.nExports, (by show 1 < 1000; decide), ?_⟩
    refine ⟨.ref ta, rfl, _, rfl, p, CM, dx, [("pieces", .ref tp), ("exports", ev)], rfl, upd_same, M.cM, M.nAliases, (by show 2 < 1000; decide), ?_⟩
    generalize hG : upd (upd (upd H p (.ins CM dx (putF "pieces" (.ref tp) []))) p (.ins CM dx (putF "exports" ev [("pieces", .ref tp)]))) p (.ins CM dx (putF "aliases" (.ref ta) [("pieces", .ref tp), ("exports", ev)])) = G
    have gp : G p = some (.ins CM dx [("pieces", .ref tp), ("exports", ev), ("aliases", .ref ta)]) := by rw [← hG]; exact upd_same
    have gof : Off p H G := fun b o hb e => by rw [← hG, upd_ne hb, upd_ne hb, upd_ne hb]; exact e
    have gno : ∀ {b : Addr}, G b = none → H b = none := fun {b} e => by
      by_cases hb : b = p
      · rw [hb, gp] at e; cases e
      · rw [← hG, upd_ne hb, upd_ne hb, upd_ne hb] at e; exact e
    have fix0 : Fix CP H G := ⟨fun b xs e => gof b _ (ne_of e hp (by intro z; cases z)) e, fun b dx' fs e => gof b _ (ne_of e hp (by intro z; cases z; exact neM rfl)) e⟩
    have gtp := fix0.1 _ _ htp
    have gta := fix0.1 _ _ hta
    have gps : Paired (PieceAt CP G) ps pvs := pair_mono (fun _ _ h => h.mono fix0) hps
    have gal : Paired (AliAt G) al avs := pair_mono (fun _ _ h => h.mono fix0) hal
    refine ⟨.ref tp, rfl, tp, rfl, ⟨_, SqT.of gtp⟩, fun D hD => dc_tup (xs := pvs) (fun i H' => Same G H' ∧ ∃ kvs, H' D = some (.dK kvs) ∧ NamedOk kvs ((ps.take i).map (·.name)) ∧ kvs.length ≤ i) ⟨same_new hD, [], upd_same, fun z => rfl, Nat.le_refl _⟩
      (fun i H' _ h => SqT.of (h.1 _ _ gtp)) (fun i x H1 hx ⟨s1, kvs, e1, no, le⟩ => ?_) (fun H1 ⟨s1, kvs, e1, no, le⟩ => ?_)⟩
    · obtain ⟨m, hm, em, qm, dxm, tm, vm, rfl, hqm, _⟩ := pair_get' gps hx
      refine ⟨rfl, .ref qm, rfl, qm, CP, dxm, pflds m tm, .str m.name, rfl, s1 _ _ hqm, T.cP, T.pName, rfl, kvs, Sum.inr m.name, rfl, e1, ?_, fun b o e => ?_, _, upd_same, ?_, ?_⟩
      · have h1 := hps.length
        have h2 : i < ps.length := (List.getElem?_eq_some_iff.mp hm).1
        omega
      · rw [upd_ne (ne_of_none e hD)]
        exact s1 _ _ e
      · rw [em, List.map_append]
        exact no.put
      · have := putK_len kvs (Sum.inr m.name) (V.bl true)
        exact Nat.le_trans this (by omega)
    · rw [← hps.length, List.take_length] at no
      refine ⟨_, rfl, p, CM, dx, _, rfl, s1 _ _ gp, M.cM, M.nNamed, (by show 3 < 1000; decide), ?_⟩
      have npD : D ≠ p := fun e => by rw [e, gp] at hD; cases hD
      have fix1 : Fix CP G (upd H1 p (.ins CM dx (putF "_named" (.ref D) [("pieces", .ref tp), ("exports", ev), ("aliases", .ref ta)]))) := (Fix.of s1).trans (Fix.ins (s1 _ _ gp) neM)
      refine ⟨.ref ta, rfl, ta, rfl, ⟨_, SqT.of (fix1.1 _ _ gta)⟩, for_it (walk_tup (xs := avs)) (fun i σ H' => ∃ v1 v2 v3, σ = [some (.ref p), some (.ref tp), some ev, some (.ref ta), v1, v2, v3] ∧ H' p = some (.ins CM dx (mflds (.ref tp) ev (.ref ta) (.ref D))) ∧ (∀ b o, b ≠ p → G b = some o → H' b = some o) ∧ ∃ kvs, H' D = some (.dK kvs) ∧ NamedOk kvs (ps.map (·.name) ++ (al.take i).map (·.1)) ∧ kvs.length ≤ ps.length + i)
        ⟨_, _, _, rfl, upd_same, fun b o hb e => by rw [upd_ne hb]; exact s1 _ _ e, kvs, by rw [upd_ne npD]; exact e1, by rw [List.take_zero, List.map_nil, List.append_nil]; exact no, by rw [hps.length]; exact le⟩
        (fun i σ H' _ ⟨_, _, _, _, _, k, _⟩ => SqT.of (k _ _ (ne_of gta gp (by intro z; cases z)) gta)) ?_ ?_⟩
      · rintro i x σ H2 H3 hi ⟨v1, v2, v3, rfl, e2, k2, kvs2, e3, no2, le2⟩ ⟨rfl, hx⟩
        obtain ⟨m, hm, em, qm, rfl, hqm⟩ := pair_get' gal hx
        have h2 : i < al.length := (List.getElem?_eq_some_iff.mp hm).1
        refine ⟨qm, _, rfl, SqT.of (k2 _ _ (ne_of hqm gp (by intro z; cases z)) hqm), rfl, _, _, rfl, _, _, rfl, rfl, ?_⟩
        refine ⟨.ref p, rfl, p, CM, dx, _, .ref D, rfl, e2, M.cM, M.nNamed, rfl, .str m.1, rfl, D, _, rfl, DPut.k (k := Sum.inr m.1) e3 (by omega), ?_⟩
        refine ⟨_, _, _, rfl, by rw [upd_ne npD.symm]; exact e2, fun b o hb e => by rw [upd_ne (ne_of_none e hD)]; exact k2 b o hb e, _, upd_same, ?_, ?_⟩
        · rw [em, List.map_append, ← List.append_assoc]
          exact no2.put
        · have := putK_len kvs2 (Sum.inr m.1) (V.bl true)
          exact Nat.le_trans this (by omega)
      · rintro σ H2 ⟨v1, v2, v3, rfl, e2, k2, kvs2, e3, no2, le2⟩
        rw [← hal.length, List.take_length] at no2
        exact q H2 D kvs2 (fun b o hb e => k2 b o hb (gof b o hb e)) (gno hD) e2 e3 no2
end
end TX

set_option Elab.async false
set_option linter.all false
set_option maxRecDepth 100000
set_option maxHeartbeats 4000000
/-! A text is read. -/
namespace TX
open PySem PySem.Spec PyProof.Rows L2 L2.FK FS
abbrev sParse : Stmt := top (TX.o + 13)
def total (rs : List (List Str)) : Nat := (rs.map List.length).sum
/-- what a text must be like for us: not too long -/
structure FitT (t : Str) : Prop where
  fits : Fits t
  rows : ∀ ws ∈ rowsOf t, ws ≠ [] ∧ ∀ z ∈ ws, Wd z ∧ PyData.strOk z = true
  sum : total (rowsOf t) < sizeLine
  many : (rowsOf t).length ≤ 1000
def ModAt (CM CP : Addr) (H : Hp) (m : Addr) (st : ST) : Prop := ∃ dx tp te ta nd pvs avs kvs, H m = some (.ins CM dx (mflds (.ref tp) (.ref te) (.ref ta) (.ref nd))) ∧ H tp = some (.tup pvs) ∧ Paired (PieceAt CP H) st.ps pvs ∧ H te = some (.tup (st.ex.map V.str)) ∧
  H ta = some (.tup avs) ∧ Paired (AliAt H) st.al avs ∧ H nd = some (.dK kvs) ∧ NamedOk kvs (st.ps.map (·.name) ++ st.al.map (·.1))
/-- .. and its dict of names is new -/
def ModAtN (CM CP : Addr) (H0 H : Hp) (m : Addr) (st : ST) : Prop := ∃ dx tp te ta nd pvs avs kvs, H m = some (.ins CM dx (mflds (.ref tp) (.ref te) (.ref ta) (.ref nd))) ∧ H tp = some (.tup pvs) ∧ Paired (PieceAt CP H) st.ps pvs ∧ H te = some (.tup (st.ex.map V.str)) ∧
  H ta = some (.tup avs) ∧ Paired (AliAt H) st.al avs ∧ H nd = some (.dK kvs) ∧ NamedOk kvs (st.ps.map (·.name) ++ st.al.map (·.1)) ∧ H0 nd = none
theorem dk_keys (zs : List Str) : ((dk zs).map fun kv => kV kv.1) = zs.map V.str := by
  unfold dk
  rw [List.map_map]
  rfl
theorem pair_nil {α : Type} {R : α → V → Prop} {vs : List V} (h : Paired R [] vs) : vs = [] := by cases h; rfl
section
variable {P : Program} {w : World} {K : PySem.W.Frag} {mg : Str → Option Value} {base : Heap} {aO aR dF CD CP CM CB fB aK fP fDi fMi : Addr} {es : Array DictEntry} {nF : Nat} {tF : Str → Addr}
structure TP (K : PySem.W.Frag) (mg : Str → Option Value) (CD CM fDi fMi : Addr) : Prop where
  gD : mg "Draft" = some (.ref CD)
  mD : Mk K CD fDi
  gM : mg "Module" = some (.ref CM)
  mM : Mk K CM fMi
def spParse (K : PySem.W.Frag) (CB CM CP : Addr) : Sp := fun vs H Q E => ∃ v, vs = [v] ∧ ((NoStr K H v ∧ ∀ d H', Same H H' → H' d = some (.xd [("row", .non)]) → E (.ref CB) (some d) H') ∨
  ∃ t, v = .str t ∧ FitT t ∧ (∀ i, parseT t = .error i → ∀ d H', Same H H' → H' d = some (.xd [("row", .int i)]) → E (.ref CB) (some d) H') ∧ (∀ st, parseT t = .ok st → ∀ H' m, Same H H' → H m = none → ModAtN CM CP H H' m st → Q (.ref m) H'))
theorem scPM : FnScope ["text", "draft", "rows", "number", "words"] ["text"] (defScope sParse) := ⟨rfl, rfl, rfl, by decide +kernel, rfl, by decide +kernel, by decide +kernel⟩
theorem ok_parse {f fS fT : Addr} {fd fdS fdT fdB fdDi fdMi : FuncData} (F : Fun K "parse_module" "parse_module" sParse f fd) (T : TC K CD CP) (TT' : TT K w mg aO aR dF es nF tF) (B : TB K mg CP CB fP fB) (M : TMd K CM) (neM : CP ≠ CM) (G : TP K mg CD CM fDi fMi)
    (GS : FnOk P w K mg base CX0 1 fS fdS ["text"] spSplit) (bS : Binds K fdS ["text"] []) (gS : mg "split_rows" = some (.ref fS)) (kS : PySem.W.keepIn K (.ref fS) = true)
    (GT : FnOk P w K mg base (L2.CX P w) 6 fT fdT ["self", "number", "words"] (spTake CD CP CB)) (bT : Binds K fdT ["self", "number", "words"] []) (mT : Meth K CD "take" fT)
    (GDi : FnOk P w K mg base CX0 1 fDi fdDi ["self"] (spDraftI CD CP)) (bDi : Binds K fdDi ["self"] [])
    (GMi : FnOk P w K mg base CX0 1 fMi fdMi ["self", "pieces", "exports", "aliases"] (spModI CM CP)) (bMi : Binds K fdMi ["self", "pieces", "exports", "aliases"] [])
    (GB : FnOk P w K mg base CX0 1 fB fdB ["self", "row"] (spBad CB "row")) (bB : Binds K fdB ["self", "row"] []) : FnOk P w K mg base (L2.CX P w) 7 f fd ["text"] (spParse K CB CM CP) := by
  refine F.okX scPM (fun vs H Q E h => ?_) (fun cdv A0 outer s H vs Q E hr h => ?_)
  · obtain ⟨v, rfl, _⟩ := h
    rfl
  · obtain ⟨v, rfl, h⟩ := h
    have hr2 : Room 2 _ := hr.mono (by decide)
    have hr1 : Room 1 _ := hr.mono (by decide)
    refine ⟨_, pss_cons (ps_if (pt_not (pt_val (pe_callB call_isi (by rfl) TT'.zi b_isi (pa_cons (pv 0) (pa_cons (pe_bltn rfl TT'.zs b_str (v := .ty "str") rfl) pa_nil)))))
        (pss_one (ps_raise rfl (takes_of rfl rfl rfl rfl) (pmk_oex B.ec.oex B.ec.iC B.ec.tI GB hr2 bB .nil pass0 rfl B.ec.gC (pa_cons pe_non pa_nil)))) pss_nil)
      (pss_cons (ps_set (i := 1) scPM.nd rfl (.inl rfl) (pe_make0 G.mD GDi hr2 rfl G.gD bDi .nil pass0))
      (pss_cons (ps_set (i := 2) scPM.nd rfl (.inl rfl) (pe_call GS hr1 rfl gS kS bS .nil pass0 (pa_cons (pv 0) pa_nil)))
      (pss_cons (ps_for (passes_of rfl) rfl (pi_enum (by rfl) B.ze (pa_cons (pv 2) pa_nil)) (pg_tup rfl (pgs_cons (pg_name (i := 3) scPM.nd rfl (Or.inl rfl)) (pgs_cons (pg_name (i := 4) scPM.nd rfl (Or.inl rfl)) pgs_nil)))
          (pss_one (ps_expr (pe_meth (pv 1) T.cD mT GT hr bT .nil (passes_call (takes_of rfl rfl rfl rfl) (fun _ _ _ _ h => h)) (pa_cons (pv 3) (pa_cons (pv 4) pa_nil))))))
      (pss_cons (ps_if (pt_cmp (pc_notN (pe_fld (pv 1) rfl))) (pss_one (ps_raise rfl (takes_of rfl rfl rfl rfl) (pmk_oex B.ec.oex B.ec.iC B.ec.tI GB hr2 bB .nil pass0 rfl B.ec.gC (pa_cons (pe_callB call_len_seq (by rfl) TT'.zl PySem.boot_len (pa_cons (pv 2) pa_nil)) pa_nil)))) pss_nil)
      (pss_one (ps_ret (pe_make G.mM GMi hr2 rfl G.gM bMi .nil pass0 (pa_cons (pe_callTy call_tupleS (by rfl) B.zt boot_tuple (pa_cons (pe_fld (pv 1) rfl) pa_nil)) (pa_cons (pe_callTy (call_tupDS rfl) (by rfl) B.zt boot_tuple (pa_cons (pe_fld (pv 1) rfl) pa_nil)) (pa_cons (pe_callTy call_tupleS (by rfl) B.zt boot_tuple (pa_cons (pe_fld (pv 1) rfl) pa_nil)) pa_nil)))))))))), ?_⟩
    have ks : PySem.W.kitOne K (.type "str") (.type "str") = some true := kit_ty (by decide +kernel)
    rcases h with ⟨⟨ty0, ty, kt⟩, qe⟩ | ⟨t, rfl, ft, qe, qo⟩
    · exact ⟨v, rfl, v, .ty "str", ty0, .type "str", false, rfl, .ty "str", ty, kt, false, rfl, iteT (bad_mk fun d H' nd s1 e9 => qe d H' s1 e9)⟩
    · refine ⟨.str t, rfl, .str t, .ty "str", .type "str", .type "str", true, rfl, .ty "str", .base (.str t), ks, true, rfl, iteF ?_⟩
      refine fun x dx nx ndx nex => ⟨x, dx, rfl, upd_same, fun A H1 ep er off ndp nde nda ndn D => ⟨rfl, ?_⟩⟩
      subst ep
      have s1 : Same H H1 := fun b o e => off b o (ne_of_none e nx) (by rw [upd_ne (ne_of_none e nx), upd_ne (ne_of_none e ndx)]; exact e)
      have s0 : Same H (upd (upd H dx (.own A.p)) A.p (.ins CD dx [])) := fun b o e => by rw [upd_ne (ne_of_none e nx), upd_ne (ne_of_none e ndx)]; exact e
      have nf : ∀ {b : Addr} {o : HO}, H b = some o → ¬ Foot A b := fun {b o} e fo => by
        rcases fo with f | f | f | f | f | f
        · rw [f, nx] at e; cases e
        · rw [f, same_none s0 ndp] at e; cases e
        · rw [f, same_none s0 nde] at e; cases e
        · rw [f, same_none s0 nda] at e; cases e
        · rw [f, same_none s0 ndn] at e; cases e
        · rw [er] at f; cases f
      refine ⟨.str t, rfl, t, rfl, ft.fits, fun H3 r rs s3 nr e3 hrows => ?_⟩
      have D3 := D.mono s3
      have nfr : ¬ Foot A r := D.free nr
      have nfq : ∀ {q : Addr} {v0 : V} {l : List V}, H3 q = some (.lst (v0 :: l)) → ¬ Foot A q := fun {q v0 l} e fo => by
        obtain ⟨dx3, k, n, z, rr, e4, _⟩ := D3.ob
        obtain ⟨vs, e5, e6⟩ := D3.dp
        obtain ⟨us, e7, e8⟩ := D3.da
        have hv := pair_nil e6
        have hu := pair_nil e8
        subst hv hu
        rcases fo with f | f | f | f | f | f
        · rw [f, e4] at e; cases e
        · rw [f, e5] at e; cases e
        · rw [f, D3.de] at e; cases e
        · rw [f, e7] at e; cases e
        · rw [f, D3.dn] at e; cases e
        · rw [er] at f; cases f
      have sameOf : ∀ {H' : Hp}, Kept A H3 H' → Same H H' := fun {H'} k b o e => k b o (s3 _ _ (s1 _ _ e)) (nf e)
      refine ⟨.ref r, rfl, r, rs, rfl, SqL.of e3, for_it (walk_enum (xs := rs)) (fun i σ H' => ∃ v3 v4 A' st', σ = [some (.str t), some (.ref A.p), some (.ref r), v3, v4] ∧ Kept A H3 H' ∧ Next H3 A A' ∧ DAt CD CP A' H' st' ∧ StOk st' ∧ wt st' + total ((rowsOf t).drop i) ≤ total (rowsOf t) ∧ parseRows ((rowsOf t).drop i) (i : Nat) st' = parseRows (rowsOf t) 0 st0)
        ⟨none, none, A, st0, rfl, fun b o e _ => e, Next.same _ _, D3, (fun op e => nomatch e), by rw [List.drop_zero]; show 0 + _ ≤ _; omega, by rw [List.drop_zero]; rfl⟩ (fun i σ H' _ ⟨_, _, _, _, _, k, _⟩ => SqL.of (k _ _ e3 nfr)) ?turn ?done⟩
      case turn =>
        rintro i x0 σ H4 H5 hi ⟨v3, v4, A', st', rfl, k4, n4, D4, hs4, hw4, hp4⟩ ⟨T1, x, y, rfl, nT, rfl, hx, hy⟩
        cases hx
        have sT : Same H4 (upd H4 T1 (.tup [.int (i : Nat), y])) := same_new nT
        have D5 := D4.mono sT
        obtain ⟨ws, hws, q, rfl, hq⟩ := pair_get hrows hy
        have hmem := List.mem_of_getElem? hws
        obtain ⟨hne, hz⟩ := ft.rows ws hmem
        have ed : (rowsOf t).drop i = ws :: (rowsOf t).drop (i + 1) := by
          rw [List.drop_eq_getElem_cons (List.getElem?_eq_some_iff.mp hws).1]
          rw [(List.getElem?_eq_some_iff.mp hws).2]
        rw [ed] at hw4 hp4
        have etot : total (ws :: (rowsOf t).drop (i + 1)) = ws.length + total ((rowsOf t).drop (i + 1)) := by
          unfold total
          rw [List.map_cons, List.sum_cons]
        rw [etot] at hw4
        have nq : ¬ Foot A q := by
          cases ws with
          | nil => exact absurd rfl hne
          | cons a l => exact nfq hq
        have hap : A'.p = A.p := n4.1
        obtain ⟨dx5, kk, nn, zz, rr, e5, _⟩ := D5.ob
        rw [hap] at e5
        have hsum := ft.sum
        have kT : Kept A H3 (upd H4 T1 (.tup [.int (i : Nat), .ref q])) := k4.trans (Kept.of sT)
        have ep5 : parseRows (ws :: (rowsOf t).drop (i + 1)) (i : Nat) st' = (match takeRow (i : Nat) ws st' with | .error e => .error e | .ok st2 => parseRows ((rowsOf t).drop (i + 1)) ((i : Nat) + 1) st2) := rfl
        refine ⟨T1, _, rfl, SqT.of upd_same, rfl, _, _, rfl, _, _, rfl, rfl, ?_⟩
        refine ⟨.ref A.p, rfl, A.p, dx5, _, rfl, e5, rfl, .int (i : Nat), rfl, .ref q, rfl, A', st', (i : Nat), q, ws, (by rw [hap]; rfl), D5, kT _ _ hq nq, n4.foot hq nq, hne, fun z h => (hz z h).1, fun z h => (hz z h).2, hs4, by omega, fun e en d H' k' e9 => ?_, fun st2 en H' A2 k' n' D' => ?_⟩
        · refine qe e ?_ d H' (sameOf (kT.next n4 k')) e9
          unfold parseT
          rw [← hp4, ep5, en]
        · obtain ⟨hs5, hw5⟩ := takeRow_ok hne en hs4
          refine ⟨_, _, A2, st2, rfl, kT.next n4 k', Next.trans kT n4 D5 n', D', hs5, by omega, ?_⟩
          rw [← hp4, ep5, en]
          rfl
      case done =>
        rintro σ H' ⟨v3, v4, A', st', rfl, k4, n4, D4, hs4, hw4, hp4⟩
        have hlen : (rowsOf t).length = rs.length := hrows.length
        rw [← hlen, List.drop_length] at hp4 hw4
        have hp5 : parseRows (rowsOf t) 0 st0 = .ok st' := hp4.symm
        have et : parseT t = if st'.op.isSome then .error ((rowsOf t).length : Int) else .ok st' := by
          unfold parseT
          rw [hp5]
        have hap : A'.p = A.p := n4.1
        obtain ⟨dx5, kk, nn, zz, rr, e5, e6⟩ := D4.ob
        rw [hap] at e5
        have sH := sameOf k4
        refine ⟨.ref A.p, rfl, A.p, CD, dx5, _, kk, rfl, e5, T.cD, T.nKind, rfl, _, rfl, ?_⟩
        cases ho : st'.op with
        | some op =>
          rw [ho] at e6 et
          have ek : kk = .str op.kind := e6.1
          subst ek
          refine iteT ⟨.ref r, rfl, r, _, rfl, .inl (SqL.of (k4 _ _ e3 nfr)), bad_mk fun d H2 nd s2 e9 => qe _ et d H2 (sH.trans s2) (by rw [e9, hlen])⟩
        | none =>
          rw [ho] at e6 et
          have ek : kk = .non := e6.1
          subst ek
          refine iteF ?_
          obtain ⟨pvs, e7, e8⟩ := D4.dp
          obtain ⟨avs, e10, e11⟩ := D4.da
          refine ⟨.ref A.p, rfl, A.p, CD, dx5, _, .ref A'.dp, rfl, e5, T.cD, T.nPieces, rfl, A'.dp, pvs, rfl, SqL.of e7, fun tp H5 s5 n5 etp => ?_⟩
          refine ⟨.ref A.p, rfl, A.p, CD, dx5, _, .ref A'.de, rfl, s5 _ _ e5, T.cD, T.nExports, rfl, A'.de, _, rfl, s5 _ _ D4.de, fun te H6 s6 n6 ete => ?_⟩
          refine ⟨.ref A.p, rfl, A.p, CD, dx5, _, .ref A'.da, rfl, s6 _ _ (s5 _ _ e5), T.cD, T.nAliases, rfl, A'.da, avs, rfl, SqL.of (s6 _ _ (s5 _ _ e10)), fun ta H7 s7 n7 eta => ?_⟩
          rw [dk_keys] at ete
          have s47 : Same H' H7 := (s5.trans s6).trans s7
          refine fun m dm nm ndm nedm => ⟨m, dm, tp, ta, .ref te, st'.ps, pvs, st'.al, avs, rfl, upd_same, ?_⟩
          have sm : Same H7 (upd (upd H7 dm (.own m)) m (.ins CM dm [])) := fun b o e => by rw [upd_ne (ne_of_none e nm), upd_ne (ne_of_none e ndm)]; exact e
          have s48 := s47.trans sm
          have wtl : wt st' ≤ total (rowsOf t) := Nat.le_trans (Nat.le_add_right _ _) hw4
          have hsum := ft.sum
          refine ⟨sm _ _ (s7 _ _ (s6 _ _ etp)), pair_mono (fun _ _ h => h.mono (Fix.of s48)) e8, sm _ _ eta, pair_mono (fun _ _ h => h.mono (Fix.of (CP := CP) s48)) e11, by unfold wt at wtl; omega, fun H8 nd kvs off8 nnd e12 e13 no => ⟨rfl, ?_⟩⟩
          have s78 : Same H7 H8 := fun b o e => off8 b o (ne_of_none e nm) (sm _ _ e)
          have s4' : Same H' H8 := s47.trans s78
          refine qo st' et H8 m (sH.trans s4') (same_none sH (same_none s47 nm)) ⟨dm, tp, te, ta, nd, pvs, avs, kvs, e12, s78 _ _ (s7 _ _ (s6 _ _ etp)), pair_mono (fun _ _ h => h.mono (Fix.of s4')) e8, s78 _ _ (s7 _ _ ete), s78 _ _ eta, pair_mono (fun _ _ h => h.mono (Fix.of (CP := CP) s4')) e11, e13, no, same_none sH (same_none s48 nnd)⟩
end
end TX

set_option Elab.async false
set_option linter.all false
set_option maxRecDepth 100000
set_option maxHeartbeats 4000000
/-! Texts by their words: what is written is read. -/
namespace TG
open PySem PySem.Spec PyProof.Rows L2 L2.FK FS TX
def NL : Str := "\n"
def SP : Str := " "
theorem tl_NL : TL.tl NL = 10 :: [] := by decide +kernel
theorem tl_SP : TL.tl SP = 32 :: [] := by decide +kernel
structure WordOk (z : Str) : Prop where
  len : z.length ≤ 20
  ne : z ≠ ""
  sp : 32 ∉ z.cps.toList
  nl : 10 ∉ z.cps.toList
  ok : PyData.strOk z = true
def wordB (z : Str) : Bool := decide (z.length ≤ 20) && decide (z ≠ "") && !z.cps.toList.contains 32 && !z.cps.toList.contains 10 && PyData.strOk z
theorem word_of {z : Str} (h : wordB z = true) : WordOk z := by
  unfold wordB at h
  simp only [Bool.and_eq_true, decide_eq_true_eq, Bool.not_eq_true'] at h
  obtain ⟨⟨⟨⟨h1, h2⟩, h3⟩, h4⟩, h5⟩ := h
  refine ⟨h1, h2, fun m => ?_, fun m => ?_, h5⟩
  · rw [List.contains_iff_mem.mpr m] at h3
    cases h3
  · rw [List.contains_iff_mem.mpr m] at h4
    cases h4
structure LinesOk (L : List (List Str)) : Prop where
  row : ∀ ws ∈ L, ws ≠ [] ∧ ∀ z ∈ ws, WordOk z
  sum : total L ≤ 5000
  many : L.length ≤ 900
def line (ws : List Str) : Str := Txt.join SP ws
def textOf (L : List (List Str)) : Str := Txt.join NL (L.map line)
theorem mem_joinL {S : List Nat} {c : Nat} : ∀ {ps : List (List Nat)}, c ∈ TL.joinL S ps → c ∈ S ∨ ∃ p ∈ ps, c ∈ p
  | [], h => nomatch h
  | [p], h => .inr ⟨p, List.mem_cons_self .., h⟩
  | p :: q :: r, h => by
    have h : c ∈ p ++ (S ++ TL.joinL S (q :: r)) := h
    rcases List.mem_append.mp h with h | h
    · exact .inr ⟨p, List.mem_cons_self .., h⟩
    · rcases List.mem_append.mp h with h | h
      · exact .inl h
      · rcases mem_joinL h with h | ⟨p', h1, h2⟩
        · exact .inl h
        · exact .inr ⟨p', List.mem_cons_of_mem _ h1, h2⟩
theorem joinL_le (S : List Nat) : ∀ ps : List (List Nat), (TL.joinL S ps).length ≤ (ps.map List.length).sum + ps.length * S.length
  | [] => Nat.zero_le _
  | [p] => by
    show p.length ≤ _
    simp
  | p :: q :: r => by
    have ih := joinL_le S (q :: r)
    show (p ++ (S ++ TL.joinL S (q :: r))).length ≤ _
    rw [List.length_append, List.length_append, List.map_cons, List.sum_cons, List.length_cons, Nat.succ_mul]
    omega
theorem join_le {S : Str} {c : Nat} (hs : TL.tl S = c :: []) (R : List Str) : (Txt.join S R).length ≤ (R.map (·.length)).sum + R.length := by
  rw [TL.join_eq]
  have h1 : (S.join R).length = (TL.tl (S.join R)).length := (Array.length_toList).symm
  rw [h1, TL.tl_join, hs]
  have := joinL_le [c] (R.map TL.tl)
  rw [List.map_map, List.length_map] at this
  have e : (List.length ∘ TL.tl) = fun z : Str => z.length := funext fun z => Array.length_toList
  rw [e] at this
  simpa using this
theorem sum_le {α : Type} (f : α → Nat) (c : Nat) : ∀ {xs : List α}, (∀ x ∈ xs, f x ≤ c) → (xs.map f).sum ≤ xs.length * c
  | [], _ => Nat.zero_le _
  | x :: r, h => by
    have h1 := h x (List.mem_cons_self ..)
    have h2 := sum_le f c fun y hy => h y (List.mem_cons_of_mem _ hy)
    rw [List.map_cons, List.sum_cons, List.length_cons, Nat.succ_mul]
    omega
theorem line_len {ws : List Str} (h : ∀ z ∈ ws, WordOk z) : (line ws).length ≤ 21 * ws.length := by
  have h1 := join_le tl_SP ws
  have h2 := sum_le (fun z : Str => z.length) 20 fun z hz => (h z hz).len
  show (Txt.join SP ws).length ≤ _
  omega
theorem line_nl {ws : List Str} (h : ∀ z ∈ ws, WordOk z) : 10 ∉ TL.tl (line ws) := by
  intro m
  have m : 10 ∈ TL.tl (Txt.join SP ws) := m
  rw [TL.join_eq, TL.tl_join, tl_SP] at m
  rcases mem_joinL m with m | ⟨p, hp, m⟩
  · simp at m
  · obtain ⟨z, hz, rfl⟩ := List.mem_map.mp hp
    exact (h z hz).nl m
theorem split_line {ws : List Str} (ne : ws ≠ []) (h : ∀ z ∈ ws, WordOk z) : Txt.split (line ws) SP = ws :=
  TL.split_join tl_SP (by decide +kernel) ne fun p hp m => (h p hp).sp m
theorem line_ne {ws : List Str} (ne : ws ≠ []) (h : ∀ z ∈ ws, WordOk z) : line ws ≠ "" := fun e => by
  have e1 := split_line ne h
  rw [e] at e1
  have : Txt.split ("" : Str) SP = [("" : Str)] := by decide +kernel
  rw [this] at e1
  exact (h "" (by rw [← e1]; exact List.mem_cons_self ..)).ne rfl
theorem split_text {L : List (List Str)} (ne : L ≠ []) (h : ∀ ws ∈ L, ws ≠ [] ∧ ∀ z ∈ ws, WordOk z) : Txt.split (textOf L) NL = L.map line :=
  TL.split_join tl_NL (by decide +kernel) (fun e => ne (List.map_eq_nil_iff.mp e)) fun p hp m => by
    obtain ⟨ws, hws, rfl⟩ := List.mem_map.mp hp
    exact line_nl (h ws hws).2 m
theorem rows_text {L : List (List Str)} (h : ∀ ws ∈ L, ws ≠ [] ∧ ∀ z ∈ ws, WordOk z) : rowsOf (textOf L) = L := by
  cases L with
  | nil => rfl
  | cons w r =>
    have e := split_text (List.cons_ne_nil w r) h
    unfold rowsOf
    by_cases q : textOf (w :: r) = ""
    · rw [q] at e
      have : Txt.split ("" : Str) NL = [("" : Str)] := by decide +kernel
      rw [this] at e
      have hw := h w (List.mem_cons_self ..)
      have e1 : ("" : Str) = line w := by
        have := congrArg List.head? e
        exact Option.some.inj this
      exact absurd e1.symm (line_ne hw.1 hw.2)
    · rw [if_neg q]
      show (Txt.split (textOf (w :: r)) NL).map _ = _
      rw [e, List.map_map]
      refine (List.map_congr_left fun ws hws => ?_).trans (List.map_id _)
      exact split_line (h ws hws).1 (h ws hws).2
theorem text_len {L : List (List Str)} (h : ∀ ws ∈ L, ws ≠ [] ∧ ∀ z ∈ ws, WordOk z) : (textOf L).length ≤ 21 * total L + L.length := by
  have h1 := join_le tl_NL (L.map line)
  have h2 : ∀ M : List (List Str), (∀ ws ∈ M, ws ≠ [] ∧ ∀ z ∈ ws, WordOk z) → ((M.map line).map (·.length)).sum ≤ 21 * total M := by
    intro M
    induction M with
    | nil => intro _; exact Nat.zero_le _
    | cons w r ih =>
      intro hM
      have i1 := ih fun ws hws => hM ws (List.mem_cons_of_mem _ hws)
      have i2 := line_len (hM w (List.mem_cons_self ..)).2
      unfold total at i1 ⊢
      rw [List.map_cons, List.map_cons, List.sum_cons, List.map_cons, List.sum_cons]
      omega
  have h3 := h2 L h
  rw [List.length_map] at h1
  show (Txt.join NL (L.map line)).length ≤ _
  omega
theorem fit_text {L : List (List Str)} (k : LinesOk L) : FitT (textOf L) := by
  have big : sizeLine = 16777216 := rfl
  have h1 := text_len k.row
  have h2 := k.sum
  have h3 := k.many
  refine ⟨⟨by rw [big]; omega, fun r hr => ?_⟩, fun ws hw => ?_, ?_, ?_⟩
  · cases L with
    | nil =>
      have : r ∈ Txt.split ("" : Str) NL := hr
      rw [show Txt.split ("" : Str) NL = [("" : Str)] by decide +kernel] at this
      rw [List.mem_singleton.mp this]
      decide +kernel
    | cons w l =>
      have hr : r ∈ Txt.split (textOf (w :: l)) NL := hr
      rw [split_text (List.cons_ne_nil w l) k.row] at hr
      obtain ⟨ws, hws, rfl⟩ := List.mem_map.mp hr
      have l1 := line_len (k.row ws hws).2
      have l2 : ws.length ≤ total (w :: l) := by
        unfold total
        have : ∀ M : List (List Str), ws ∈ M → ws.length ≤ (M.map List.length).sum := by
          intro M
          induction M with
          | nil => intro h; cases h
          | cons x y ih =>
            intro h
            rw [List.map_cons, List.sum_cons]
            rcases List.mem_cons.mp h with e | h
            · rw [e]; omega
            · have := ih h; omega
        exact this _ hws
      rw [big]
      omega
  · rw [rows_text k.row] at hw
    refine ⟨(k.row ws hw).1, fun z hz => ⟨?_, ((k.row ws hw).2 z hz).ok⟩⟩
    have := ((k.row ws hw).2 z hz).len
    unfold Wd
    rw [big]
    omega
  · rw [rows_text k.row, big]
    omega
  · rw [rows_text k.row]
    omega
/-! ### what words say -/
inductive It where
  | ex (es : List Str)
  | al (a b : Str)
  | pc (p : MP)
def vS : V → Str
  | .str z => z
  | .int i => Str.ofString (toString i)
  | _ => ""
def rW : MR → List Str
  | .ins xs => xs.map vS
  | .dat v => [vS v]
def pcW (p : MP) : List (List Str) := [p.kind, p.name] :: (p.rows.map rW ++ [[("end" : Str)]])
def itW : It → List (List Str)
  | .ex es => [("export" : Str) :: es]
  | .al a b => [[("alias" : Str), a, b]]
  | .pc p => pcW p
def put (st : ST) : It → ST
  | .ex es => { st with ex := st.ex ++ es }
  | .al a b => { st with al := st.al ++ [(a, b)], nm := st.nm ++ [a] }
  | .pc p => { st with ps := st.ps ++ [p], nm := st.nm ++ [p.name] }
structure OkRow (k : Str) (n : Nat) (r : MR) : Prop where
  row : rowOf k (rW r) = some r
  to : tooGreat n r = false
  ne : rW r ≠ [("end" : Str)]
structure OkPc (nm : List Str) (few : Nat) (p : MP) : Prop where
  kind : p.kind = "func" ∨ p.kind = "data"
  name : isName p.name = true
  new : nm.contains p.name = false
  few : few < 12
  len : p.rows.length ≤ 16
  rows : ∀ r ∈ p.rows, OkRow p.kind p.rows.length r
def OkIt (st : ST) : It → Prop
  | .ex es => es ≠ [] ∧ (∀ e ∈ es, isName e = true) ∧ (st.ex ++ es).Nodup
  | .al a b => isName a = true ∧ isName b = true ∧ st.nm.contains a = false
  | .pc p => OkPc st.nm st.ps.length p
theorem exports_go : ∀ (es : List Str) (st : ST), (∀ e ∈ es, isName e = true) → (st.ex ++ es).Nodup → exportsGo es st = some { st with ex := st.ex ++ es }
  | [], st, _, _ => by
    unfold exportsGo
    rw [List.append_nil]
  | z :: r, st, h, nd => by
    have hz : st.ex.contains z = false := by
      rw [← Bool.not_eq_true]
      intro m
      have m := List.contains_iff_mem.mp m
      rw [List.nodup_append] at nd
      exact nd.2.2 z m z (List.mem_cons_self ..) rfl
    unfold exportsGo
    rw [h z (List.mem_cons_self ..), hz]
    show exportsGo r { st with ex := st.ex ++ [z] } = _
    have nd' : ((st.ex ++ [z]) ++ r).Nodup := by
      rw [List.append_assoc]
      exact nd
    rw [exports_go r { st with ex := st.ex ++ [z] } (fun e he => h e (List.mem_cons_of_mem _ he)) nd']
    show some { st with ex := (st.ex ++ [z]) ++ r } = _
    rw [List.append_assoc]
    rfl
theorem take_name {z : Str} {st : ST} (h1 : isName z = true) (h2 : st.nm.contains z = false) : takeName z st = some { st with nm := st.nm ++ [z] } := by
  unfold takeName
  rw [h1, h2]
  rfl
theorem rows_cons {ws : List Str} {r : List (List Str)} {i : Int} {st st' : ST} (h : takeRow i ws st = .ok st') : parseRows (ws :: r) i st = parseRows r (i + 1) st' := by
  show (match takeRow i ws st with
    | Except.error e => Except.error e
    | Except.ok st' => parseRows r (i + 1) st') = _
  rw [h]
theorem rows_within {op : OP} : ∀ (rs : List MR) (st : ST) (i : Int) (rest : List (List Str)) (acc : List MR), st.op = some { op with rows := acc } → acc.length + rs.length ≤ 16 → (∀ r ∈ rs, rowOf op.kind (rW r) = some r ∧ rW r ≠ [("end" : Str)]) →
    parseRows (rs.map rW ++ rest) i st = parseRows rest (i + rs.length) { st with op := some { op with rows := acc ++ rs } }
  | [], st, i, rest, acc, h, _, _ => by
    rw [List.append_nil, ← h]
    simp
  | r :: rs, st, i, rest, acc, h, hl, k => by
    obtain ⟨k1, k2⟩ := k r (List.mem_cons_self ..)
    rw [List.length_cons] at hl
    have step : takeRow i (rW r) st = .ok { st with op := some { op with rows := acc ++ [r] } } := by
      unfold takeRow
      rw [h]
      dsimp only
      rw [if_neg k2]
      unfold takeWithin
      dsimp only
      rw [k1]
      dsimp only
      rw [if_neg (by omega)]
    show parseRows (rW r :: (rs.map rW ++ rest)) i st = _
    rw [rows_cons step, rows_within rs { st with op := some { op with rows := acc ++ [r] } } (i + 1) rest (acc ++ [r]) rfl (by rw [List.length_append, List.length_singleton]; omega) (fun x hx => k x (List.mem_cons_of_mem _ hx))]
    dsimp only
    rw [List.append_assoc, List.length_cons]
    congr 1
    push_cast
    omega
theorem bad_none {n : Nat} : ∀ (rs : List MR) (i : Int), (∀ r ∈ rs, tooGreat n r = false) → badFrom n rs i = none
  | [], _, _ => rfl
  | r :: rs, i, h => by
    unfold badFrom
    rw [h r (List.mem_cons_self ..)]
    exact bad_none rs (i + 1) fun x hx => h x (List.mem_cons_of_mem _ hx)
theorem piece_rows {st : ST} {p : MP} {i : Int} {rest : List (List Str)} (ho : st.op = none) (k : OkPc st.nm st.ps.length p) : parseRows (pcW p ++ rest) i st = parseRows rest (i + (pcW p).length) (put st (.pc p)) := by
  have hk : p.kind ≠ "export" ∧ p.kind ≠ "alias" := by
    rcases k.kind with e | e <;> rw [e] <;> decide +kernel
  have step : takeRow i [p.kind, p.name] st = .ok { st with nm := st.nm ++ [p.name], op := some ⟨p.kind, p.name, i + 1, []⟩ } := by
    unfold takeRow
    rw [ho]
    dsimp only
    unfold takeBetween
    dsimp only
    rw [if_neg hk.1, if_neg hk.2, if_pos k.kind]
    unfold openPiece
    dsimp only
    rw [if_neg (by have := k.few; omega), take_name k.name k.new]
    rfl
  show parseRows ([p.kind, p.name] :: ((p.rows.map rW ++ [[("end" : Str)]]) ++ rest)) i st = _
  rw [rows_cons step, List.append_assoc, rows_within (op := ⟨p.kind, p.name, i + 1, []⟩) p.rows _ (i + 1) ([[("end" : Str)]] ++ rest) [] rfl (by show 0 + _ ≤ 16; have := k.len; omega) (fun r hr => ⟨(k.rows r hr).row, (k.rows r hr).ne⟩)]
  dsimp only
  rw [List.nil_append]
  have close : takeRow (i + 1 + (p.rows.length : Int)) [("end" : Str)] { st with nm := st.nm ++ [p.name], op := some ⟨p.kind, p.name, i + 1, p.rows⟩ } = .ok { st with nm := st.nm ++ [p.name], op := none, ps := st.ps ++ [p] } := by
    unfold takeRow
    dsimp only
    rw [if_pos rfl]
    unfold closePiece
    dsimp only
    rw [bad_none p.rows 0 fun r hr => (k.rows r hr).to]
    have : (if p.kind = "func" then (none : Option Int) else none) = none := by split <;> rfl
    rw [this]
  show parseRows ([("end" : Str)] :: rest) (i + 1 + (p.rows.length : Int)) _ = _
  rw [rows_cons close]
  have e1 : (i + 1 + (p.rows.length : Int) + 1) = i + ((pcW p).length : Int) := by
    unfold pcW
    rw [List.length_cons, List.length_append, List.length_map, List.length_singleton]
    push_cast
    omega
  rw [e1]
  unfold put
  rw [← ho]
theorem item_rows {st : ST} {t : It} {i : Int} {rest : List (List Str)} (ho : st.op = none) (k : OkIt st t) : parseRows (itW t ++ rest) i st = parseRows rest (i + (itW t).length) (put st t) := by
  obtain ⟨ps, ex, al, nm, op⟩ := st
  have ho : op = none := ho
  subst ho
  cases t with
  | ex es =>
    obtain ⟨k1, k2, k3⟩ := k
    have step : takeRow i (("export" : Str) :: es) ⟨ps, ex, al, nm, none⟩ = .ok ⟨ps, ex ++ es, al, nm, none⟩ := by
      unfold takeRow
      dsimp only
      unfold takeBetween
      dsimp only
      rw [if_pos rfl]
      unfold takeExports
      rw [if_neg (fun e => k1 (List.length_eq_zero_iff.mp e)), exports_go es _ k2 k3]
    exact rows_cons step
  | al a b =>
    obtain ⟨k1, k2, k3⟩ := k
    have step : takeRow i [("alias" : Str), a, b] ⟨ps, ex, al, nm, none⟩ = .ok ⟨ps, ex, al ++ [(a, b)], nm ++ [a], none⟩ := by
      unfold takeRow
      dsimp only
      unfold takeBetween
      dsimp only
      rw [if_neg (by decide +kernel), if_pos rfl]
      unfold takeAlias
      dsimp only
      rw [if_pos k2, take_name k1 k3]
      rfl
    exact rows_cons step
  | pc p => exact piece_rows rfl k
def putAll : List It → ST → ST
  | [], st => st
  | t :: r, st => putAll r (put st t)
def OkAll : List It → ST → Prop
  | [], _ => True
  | t :: r, st => OkIt st t ∧ OkAll r (put st t)
def wordsOf (ts : List It) : List (List Str) := (ts.map itW).flatten
theorem put_op {st : ST} {t : It} (h : st.op = none) : (put st t).op = none := by cases t <;> exact h
theorem all_rows : ∀ (ts : List It) (st : ST) (i : Int), st.op = none → OkAll ts st → parseRows (wordsOf ts) i st = .ok (putAll ts st) ∧ (putAll ts st).op = none
  | [], st, i, h, _ => ⟨rfl, h⟩
  | t :: r, st, i, h, k => by
    obtain ⟨k1, k2⟩ := k
    have ih := all_rows r (put st t) (i + (itW t).length) (put_op h) k2
    refine ⟨?_, ih.2⟩
    show parseRows (itW t ++ wordsOf r) i st = _
    rw [item_rows h k1]
    exact ih.1
/-- what is written is read -/
theorem parse_items {ts : List It} (k : OkAll ts st0) (l : LinesOk (wordsOf ts)) : parseT (textOf (wordsOf ts)) = .ok (putAll ts st0) := by
  obtain ⟨h1, h2⟩ := all_rows ts st0 0 rfl k
  unfold parseT
  rw [rows_text l.row, h1]
  dsimp only
  rw [h2]
  rfl
end TG

set_option Elab.async false
set_option linter.all false
set_option maxRecDepth 100000
set_option maxHeartbeats 4000000
/-! sorted of a tuple of texts. -/
namespace FS
open PySem PySem.Spec PyProof.Rows L2
section
variable {prog : Program} {w : World} {A : Around} {E : Value → Shared → Prop} {s : Shared}
theorem sorted_tup {l : Addr} {o : Obj} {vs : List Value} {n : Nat} {ss : List Str} {Q : Value → Shared → Prop} (ho : s.heap.get? l = some o) (hc : o.cls = .type "tuple") (hd : o.data = .seq vs.toArray n) (hS : StrsAre vs ss) (few : vs.length < 64)
    (fin : ∀ (h1 h' : Heap) out ys e, (∀ b o, s.heap.get? b = some o → h1.get? b = some o) → (∀ b o, h1.get? b = some o → h'.get? b = some o) → h'.get? h1.objs.size = some (seqObj "list" out e) → StrsAre out.toList ys → ys.Perm ss → sortedS ys = true → Q (.ref h1.objs.size) { s with heap := h' }) :
    wpAny (model prog w) A (call (.builtin "sorted") [.ref l]) Q E s := by
  have line : vs.toArray.size ≤ sizeLine := by rw [List.size_toArray]; exact Nat.le_of_lt (small1000 (by omega))
  refine Calls.call_function_entry kind_sorted plain_sorted entry_sorted (args_sorted1 _) ?_
  show wpAny _ _ (do checkCount "sorted" 1 1 1; let l ← newList (← collect (.ref l)); let _ ← holding [l] (call (.builtin "list.sort") [l] []); ret l) _ _ _
  refine wpAny_bind (m := checkCount "sorted" 1 1 1) (wpAny_pure (wpAny_bind (wpAny_collect_seq l (.inr rfl) ho hc hd (fun h1 k1 => wpAny_bind (wpAny_newList ?_)) line)))
  have at1 : (h1.push (seqObj "list" vs.toArray 0)).get? h1.objs.size = some (seqObj "list" vs.toArray 0) := Heap.get?_push_size _ rfl
  refine wpAny_bind (wpAny_holding (wpAny_call_entry slot_list_sort ⟨_, at1, rfl⟩ entry_list_sort (list_sort_treeK strKind_oneLt at1 hS.keysOf (fun a b r e => keyKind_strs (by rw [← e]; exact hS)) few fun st hp hs => ⟨_, rfl, ?_⟩) (args_list_sort _)))
  obtain ⟨ys, q1, q2, q3⟩ := sorted_out_str hS hp hs
  obtain ⟨e, at2⟩ := sortedHeap_at (out := (arrOf st).map (·.2)) at1
  refine wpAny_pure ⟨_, rfl, fin h1 _ _ ys e k1 (fun b ob hb => ?_) at2 q1 q2 q3⟩
  have lb := Heap.lt_size hb
  rw [sortedHeap_old (Nat.ne_of_lt lb) (by rw [size_push']; exact Nat.lt_succ_of_lt lb)]
  exact Heap.get?_push_of_some _ hb
end
section
variable {X : Cx}
theorem cr_sortedT : CallR X (.builtin "sorted") (fun vs H Q => ∃ (a : Addr) (xs : List Str), vs = [V.ref a] ∧ SqT X.K H a (xs.map V.str) ∧ xs.length < 64 ∧ ∀ (ys : List Str) (p : Addr) (H' : Hp), ys.Perm xs → sortedS ys = true → Same H H' → H p = none → H' p = some (.lst (ys.map V.str)) → Q (.ref p) H') := by
  intro pins s σ H vs us Q I r h
  obtain ⟨a, xs, rfl, ht, few, q⟩ := h
  obtain ⟨its, rv, ⟨o, ho, hc, n, hd⟩, line⟩ := I.tuple ht
  rw [Vals.ref1 r]
  have len := rv.length
  rw [List.length_map] at len
  refine sorted_tup ho hc hd rv.strs (by omega) fun h1 h' out ys e keep keep2 at_p so per srt => ?_
  have I1 : Inv X pins σ H { s with heap := h1 } := I.kept (t' := s.toks) keep
  have small : (ys.map V.str).length ≤ sizeLine := by rw [List.length_map, per.length_eq]; exact small64 few
  have nf : H h1.objs.size = none := I1.hok.fresh (Nat.le_refl _)
  refine ⟨.ref h1.objs.size, upd H h1.objs.size (.lst (ys.map V.str)), I1.laid (t' := s.toks) keep2 (Nat.le_refl _) ⟨small, out.toList, e, vals_of_strs so, at_p⟩, rfl, q ys _ _ per srt (same_new nf) nf upd_same⟩
theorem cr_sortedL : CallR X (.builtin "sorted") (fun vs H Q => ∃ (a : Addr) (xs : List Str), vs = [V.ref a] ∧ SqL X.K H a (xs.map V.str) ∧ xs.length < 64 ∧ ∀ (ys : List Str) (p : Addr) (H' : Hp), ys.Perm xs → sortedS ys = true → Same H H' → H p = none → H' p = some (.lst (ys.map V.str)) → Q (.ref p) H') := fun pins s σ H vs us Q I r ⟨a, xs, e, h, few, q⟩ =>
  cr_sortedS pins s σ H vs us Q I r ⟨a, xs, e, h, few, fun ys p per srt np => q ys p _ per srt (same_new np) np upd_same⟩
end
end FS

set_option Elab.async false
set_option linter.all false
set_option maxRecDepth 100000
set_option maxHeartbeats 4000000
/-! Comprehensions over a tuple whose values are known one by one. -/
namespace FS
open PySem PySem.Spec PyProof.Rows L2
theorem same_tup {K : PySem.W.Frag} {H H' : Hp} {a : Addr} {xs : List V} (e : Same H H') (h : SqT K H a xs) : SqT K H' a xs := by
  rcases h with (h | ⟨o, h⟩) | h
  · exact .inl (.inl (e _ _ h))
  · exact .inl (.inr ⟨o, e _ _ h⟩)
  · exact .inr h
section
variable {X : Cx} {e : Expr} {K : PySem.W.Frag}
/-- [e for x in t], t a tuple: the values are ws, and making them changes nothing that stood -/
def tCW (K : PySem.W.Frag) (tl te : TE) (j : Nat) : TE := fun σ H Q => tl σ H fun x H1 => ∃ (l : Addr) (xs ws : List V), x = .ref l ∧ SqT K H1 l xs ∧ xs.length ≤ 1000 ∧ j < σ.length ∧ ws.length = xs.length ∧
  (∀ (i : Nat) (x v : V) (τ : L2.St) (H2 : Hp) (Q' : VK), xs[i]? = some x → ws[i]? = some v → Same H1 H2 → τ[j]? = some (some x) → (∀ H3, Same H2 H3 → Q' v H3) → te τ H2 Q') ∧ ∀ D H', Same H1 H' → H1 D = none → H' D = some (.lst ws) → Q (.ref D) H'
theorem cw_of {tl te : TE} {j : Nat} (hm : ∀ σ H (Q Q' : VK), (∀ v H, Q v H → Q' v H) → tl σ H Q → tl σ H Q') (σ : L2.St) (H : Hp) (Q : VK) (h : tCW K tl te j σ H Q) : tLc (iTup K tl) (gName j) tYes te [j] σ H Q := by
  refine hm σ H _ _ (fun x H1 hx => ?_) h
  obtain ⟨l, xs, ws, ex, hl, hz, hj, lw, hv, q⟩ := hx
  refine ⟨l, ex, ⟨xs, hl⟩, fun D hD => ?_⟩
  refine lc_tup (xs := xs) (fun i H' => Same H1 H' ∧ H' D = some (.lst (ws.take i))) ⟨same_new hD, upd_same⟩ (fun _ _ _ h => same_tup h.1 hl) (fun i x H2 hx hh => ?_) (fun H2 hh => ?_)
  · obtain ⟨s2, e2⟩ := hh
    have hi : i < xs.length := (List.getElem?_eq_some_iff.mp hx).1
    have hwi : ws[i]? = some (ws[i]'(by omega)) := List.getElem?_eq_getElem (by omega)
    refine ⟨by simp [wipe], hv i x _ _ H2 _ hx hwi s2 (by simp [wipe, hj]) fun H3 s3 => ⟨_, s3 _ _ e2, ?_, fun b o eb => ?_, ?_⟩⟩
    · rw [List.length_take]
      exact small1000 (by omega)
    · rw [upd_ne (ne_of_none eb hD)]
      exact s3 _ _ (s2 _ _ eb)
    · rw [upd_same, List.take_add_one, hwi]
      rfl
  · obtain ⟨s2, e2⟩ := hh
    refine q D H2 s2 hD ?_
    rw [e2, ← lw, List.take_length]
theorem pe_cw {tl te : TE} {j : Nat} (h : PE X e (tLc (iTup K tl) (gName j) tYes te [j])) (hm : ∀ σ H (Q Q' : VK), (∀ v H, Q v H → Q' v H) → tl σ H Q → tl σ H Q') : PE X e (tCW K tl te j) := pe_imp h fun σ H Q q => cw_of hm σ H Q q
/-- the same over a list -/
def tCWl (K : PySem.W.Frag) (tl te : TE) (j : Nat) : TE := fun σ H Q => tl σ H fun x H1 => ∃ (l : Addr) (xs ws : List V), x = .ref l ∧ SqL K H1 l xs ∧ xs.length ≤ 1000 ∧ j < σ.length ∧ ws.length = xs.length ∧
  (∀ (i : Nat) (x v : V) (τ : L2.St) (H2 : Hp) (Q' : VK), xs[i]? = some x → ws[i]? = some v → Same H1 H2 → τ[j]? = some (some x) → (∀ H3, Same H2 H3 → Q' v H3) → te τ H2 Q') ∧ ∀ D H', Same H1 H' → H1 D = none → H' D = some (.lst ws) → Q (.ref D) H'
theorem cwl_of {tl te : TE} {j : Nat} (hm : ∀ σ H (Q Q' : VK), (∀ v H, Q v H → Q' v H) → tl σ H Q → tl σ H Q') (σ : L2.St) (H : Hp) (Q : VK) (h : tCWl K tl te j σ H Q) : tLc (iList K tl) (gName j) tYes te [j] σ H Q := by
  refine hm σ H _ _ (fun x H1 hx => ?_) h
  obtain ⟨l, xs, ws, ex, hl, hz, hj, lw, hv, q⟩ := hx
  refine ⟨l, ex, ⟨xs, hl⟩, fun D hD => ?_⟩
  refine lc_list (xs := xs) (fun i H' => Same H1 H' ∧ H' D = some (.lst (ws.take i))) ⟨same_new hD, upd_same⟩ (fun _ _ _ h => h.1.seq hl) (fun i x H2 hx hh => ?_) (fun H2 hh => ?_)
  · obtain ⟨s2, e2⟩ := hh
    have hi : i < xs.length := (List.getElem?_eq_some_iff.mp hx).1
    have hwi : ws[i]? = some (ws[i]'(by omega)) := List.getElem?_eq_getElem (by omega)
    refine ⟨by simp [wipe], hv i x _ _ H2 _ hx hwi s2 (by simp [wipe, hj]) fun H3 s3 => ⟨_, s3 _ _ e2, ?_, fun b o eb => ?_, ?_⟩⟩
    · rw [List.length_take]
      exact small1000 (by omega)
    · rw [upd_ne (ne_of_none eb hD)]
      exact s3 _ _ (s2 _ _ eb)
    · rw [upd_same, List.take_add_one, hwi]
      rfl
  · obtain ⟨s2, e2⟩ := hh
    refine q D H2 s2 hD ?_
    rw [e2, ← lw, List.take_length]
theorem pe_cwl {tl te : TE} {j : Nat} (h : PE X e (tLc (iList K tl) (gName j) tYes te [j])) (hm : ∀ σ H (Q Q' : VK), (∀ v H, Q v H → Q' v H) → tl σ H Q → tl σ H Q') : PE X e (tCWl K tl te j) := pe_imp h fun σ H Q q => cwl_of hm σ H Q q
theorem mono_var {i : Nat} : ∀ (σ : L2.St) (H : Hp) (Q Q' : VK), (∀ v H, Q v H → Q' v H) → tVar i σ H Q → tVar i σ H Q' := fun σ H Q Q' k h => by
  obtain ⟨v, h1, h2⟩ := h
  exact ⟨v, h1, k _ _ h2⟩
end
def rLenQ (K : PySem.W.Frag) : List V → Hp → VK → Prop := fun xs H Q => ∃ p ys, xs = [.ref p] ∧ (SqL K H p ys ∨ SqT K H p ys) ∧ Q (.int ys.length) H
def rListS (K : PySem.W.Frag) : List V → Hp → VK → Prop := fun xs H Q => ∃ p ys, xs = [.ref p] ∧ (SqL K H p ys ∨ SqT K H p ys) ∧ ∀ l H', Same H H' → H l = none → H' l = some (.lst ys) → Q (.ref l) H'
def rSortT (K : PySem.W.Frag) : List V → Hp → VK → Prop := fun vs H Q => ∃ (a : Addr) (xs : List Str), vs = [V.ref a] ∧ SqT K H a (xs.map V.str) ∧ xs.length < 64 ∧ ∀ (ys : List Str) (p : Addr) (H' : Hp), ys.Perm xs → sortedS ys = true → Same H H' → H p = none → H' p = some (.lst (ys.map V.str)) → Q (.ref p) H'
def rSortL (K : PySem.W.Frag) : List V → Hp → VK → Prop := fun vs H Q => ∃ (a : Addr) (xs : List Str), vs = [V.ref a] ∧ SqL K H a (xs.map V.str) ∧ xs.length < 64 ∧ ∀ (ys : List Str) (p : Addr) (H' : Hp), ys.Perm xs → sortedS ys = true → Same H H' → H p = none → H' p = some (.lst (ys.map V.str)) → Q (.ref p) H'
theorem eqv_txs : ∀ (a b : List Str), PyData.eqv (.list (a.map PyData.str)) (.list (b.map PyData.str)) = decide (a = b) := by
  have key : ∀ a b : List Str, PyData.eqvAll (a.map PyData.str) (b.map PyData.str) = decide (a = b) := by
    intro a
    induction a with
    | nil =>
      intro b
      cases b with
      | nil => simp [PyData.eqvAll]
      | cons y q => simp [PyData.eqvAll]
    | cons x r ih =>
      intro b
      cases b with
      | nil => simp [PyData.eqvAll]
      | cons y q =>
        simp only [List.map_cons, PyData.eqvAll, ih]
        by_cases e : x = y
        · subst e; simp [PyData.eqv]
        · simp [PyData.eqv, e]
  intro a b
  simp only [PyData.eqv, key]
theorem shaped_txs (a : List Str) (ha : ∀ z ∈ a, PyData.strOk z = true) : SeqAt.shaped (.list (a.map PyData.str)) = true := by
  have k1 : ∀ a : List Str, (∀ z ∈ a, PyData.strOk z = true) → PyData.canLayAll0 (a.map PyData.str) = true := by
    intro a
    induction a with
    | nil => simp [PyData.canLayAll0]
    | cons x r ih => intro h; simp [PyData.canLayAll0, PyData.canLay0, ih (fun z hz => h z (List.mem_cons_of_mem _ hz)), h x (List.mem_cons_self ..)]
  have k2 : ∀ a : List Str, PyData.depthAll (a.map PyData.str) = 0 := by
    intro a
    induction a with
    | nil => simp [PyData.depthAll]
    | cons x r ih => simp [PyData.depthAll, PyData.depth, ih]
  simp [SeqAt.shaped, PyData.canLay0, PyData.depth, k1 a ha, k2]
theorem dp_txs {K : PySem.W.Frag} {H : Hp} : ∀ (l : List Str), DpAll K H (l.map V.str) (l.map PyData.str)
  | [] => .nil
  | x :: r => .cons (.str x) (dp_txs r)
theorem dp_list {K : PySem.W.Frag} {H : Hp} {a : Addr} {l : List Str} (h : SqL K H a (l.map V.str)) : Dp K H (.ref a) (.list (l.map PyData.str)) := .lst h (dp_txs l)
end FS

set_option Elab.async false
set_option linter.all false
set_option maxRecDepth 100000
set_option maxHeartbeats 4000000
/-! Texts of modules that are drawn: what their words say. -/
namespace KD
open PySem PySem.Spec PyProof.Rows L2 L2.FK FS TX TG
def A4 : List Str := ["a", "b", "c", "d"]
def NM : List Str := ["x", "f1", "retx", "abcdefgh"]
def NU : List Int := [0, 7, 10, 99]
def DW : List V := [.int 0, .int 9, .int 10, .int 99, .str "x", .str "end1", .str "a"]
def insM (o1 o2 nm : Str) (nu t : Int) : List (List V) := [[.str "call", .str nm], [.str "callr", .str o1], [.str "ret"], [.str "addr", .str o1, .str nm], [.str "set", .str o1, .int nu], [.str "move", .str o1, .str o2], [.str "read", .str o1, .str nm, .int nu], [.str "readr", .str o1, .str o2, .int nu], [.str "same", .str o1, .str o2, .int t], [.str "choose", .int t], [.str "tell", .str o1], [.str "go", .int t]]
def flatB : V → Bool
  | .str _ => true
  | .int i => decide (i.natAbs < 1000)
  | _ => false
def FlatV (v : V) : Prop := (∃ z, v = .str z) ∨ ∃ i, v = .int i ∧ i.natAbs < 1000
theorem flat_of {v : V} (h : flatB v = true) : FlatV v := by
  cases v with
  | str z => exact .inl ⟨_, rfl⟩
  | int i => exact .inr ⟨_, rfl, of_decide_eq_true h⟩
  | _ => cases h
def FlatR : MR → Prop
  | .ins xs => ∀ x ∈ xs, FlatV x
  | .dat v => FlatV v
def dV : V → PyData
  | .str z => .str z
  | .int i => .int i
  | _ => .none
def rowD : MR → PyData
  | .ins xs => .tuple (xs.map dV)
  | .dat v => dV v
def rowsD (rs : List MR) : PyData := .tuple (rs.map rowD)
def tgt (xs : List V) : Option Int := match targetOf xs with
  | .int i => some i
  | _ => none
def smallB (d : PyData) : Bool := d.canLay0 && decide (d.depth ≤ 2)
def chkI (t : Option Int) (xs : List V) : Bool := decide (readIns (xs.map vS) = some xs) && decide (xs.map vS ≠ [("end" : Str)]) && (xs.map vS).all wordB && decide (xs.length ≤ 4) && decide (xs ≠ []) && xs.all flatB && smallB (rowD (.ins xs)) && decide (tgt xs = t)
def chkD (v : V) : Bool := decide (readDat [vS v] = v) && decide (v ≠ .non) && decide ([vS v] ≠ [("end" : Str)]) && wordB (vS v) && flatB v && smallB (rowD (.dat v))
theorem c0 : ∀ nm ∈ NM, chkI none [.str "call", .str nm] = true := by decide +kernel
theorem c1 : ∀ o ∈ A4, chkI none [.str "callr", .str o] = true := by decide +kernel
theorem c2 : chkI none [.str "ret"] = true := by decide +kernel
theorem c3 : ∀ o ∈ A4, ∀ nm ∈ NM, chkI none [.str "addr", .str o, .str nm] = true := by decide +kernel
theorem c4 : ∀ o ∈ A4, ∀ nu ∈ NU, chkI none [.str "set", .str o, .int nu] = true := by decide +kernel
theorem c5 : ∀ o ∈ A4, ∀ p ∈ A4, chkI none [.str "move", .str o, .str p] = true := by decide +kernel
theorem c6 : ∀ o ∈ A4, ∀ nm ∈ NM, ∀ nu ∈ NU, chkI none [.str "read", .str o, .str nm, .int nu] = true := by decide +kernel
theorem c7 : ∀ o ∈ A4, ∀ p ∈ A4, ∀ nu ∈ NU, chkI none [.str "readr", .str o, .str p, .int nu] = true := by decide +kernel
theorem c8 : ∀ o ∈ A4, ∀ p ∈ A4, ∀ t < 17, chkI (some ((t : Nat) : Int)) [.str "same", .str o, .str p, .int ((t : Nat) : Int)] = true := by decide +kernel
theorem c9 : ∀ t < 17, chkI (some ((t : Nat) : Int)) [.str "choose", .int ((t : Nat) : Int)] = true := by decide +kernel
theorem c10 : ∀ o ∈ A4, chkI none [.str "tell", .str o] = true := by decide +kernel
theorem c11 : ∀ t < 17, chkI (some ((t : Nat) : Int)) [.str "go", .int ((t : Nat) : Int)] = true := by decide +kernel
theorem cD : ∀ v ∈ DW, chkD v = true := by decide +kernel
theorem ins_chk {o1 o2 nm : Str} {nu : Int} {t : Nat} (h1 : o1 ∈ A4) (h2 : o2 ∈ A4) (h3 : nm ∈ NM) (h4 : nu ∈ NU) (h5 : t < 17) : ∀ xs ∈ insM o1 o2 nm nu (t : Int), chkI none xs = true ∨ chkI (some (t : Int)) xs = true := by
  intro xs hx
  unfold insM at hx
  simp only [List.mem_cons, List.not_mem_nil, or_false] at hx
  rcases hx with rfl | rfl | rfl | rfl | rfl | rfl | rfl | rfl | rfl | rfl | rfl | rfl
  · exact .inl (c0 _ h3)
  · exact .inl (c1 _ h1)
  · exact .inl c2
  · exact .inl (c3 _ h1 _ h3)
  · exact .inl (c4 _ h1 _ h4)
  · exact .inl (c5 _ h1 _ h2)
  · exact .inl (c6 _ h1 _ h3 _ h4)
  · exact .inl (c7 _ h1 _ h2 _ h4)
  · exact .inr (c8 _ h1 _ h2 _ h5)
  · exact .inr (c9 _ h5)
  · exact .inl (c10 _ h1)
  · exact .inr (c11 _ h5)
/-- a good row of a piece of kind k with n rows -/
structure RowG (k : Str) (n : Nat) (r : MR) : Prop where
  ok : OkRow k n r
  wd : ∀ z ∈ rW r, WordOk z
  few : (rW r).length ≤ 4
  ne : rW r ≠ []
  flat : FlatR r
  lay : (rowD r).canLay0 = true
  deep : (rowD r).depth ≤ 2
theorem great_of {n : Nat} {xs : List V} (h : tgt xs = none ∨ ∃ t : Nat, tgt xs = some (t : Int) ∧ t ≤ n) : tooGreat n (.ins xs) = false := by
  unfold tgt at h
  show (match targetOf xs with | .int t => decide ((n : Int) < t) | _ => false) = false
  generalize targetOf xs = o at h
  cases o with
  | int i =>
    rcases h with h | ⟨t, h, ht⟩
    · cases h
    · cases h
      exact decide_eq_false (by omega)
  | _ => rfl
theorem row_ins {n : Nat} {xs : List V} {o : Option Int} (h : chkI o xs = true) (ho : o = none ∨ ∃ t : Nat, o = some (t : Int) ∧ t ≤ n) : RowG "func" n (.ins xs) := by
  unfold chkI smallB at h
  simp only [Bool.and_eq_true, decide_eq_true_eq, List.all_eq_true] at h
  obtain ⟨⟨⟨⟨⟨⟨⟨h1, h2⟩, h3⟩, h4⟩, h5⟩, h6⟩, h7, h8⟩, h9⟩ := h
  refine ⟨⟨?_, ?_, h2⟩, fun z hz => word_of (h3 z hz), ?_, ?_, fun x hx => flat_of (h6 x hx), h7, h8⟩
  · show (if ("func" : Str) = "func" then (readIns (xs.map vS)).map MR.ins else _) = _
    rw [if_pos rfl, h1]
    rfl
  · exact great_of (by rw [h9]; exact ho)
  · show (xs.map vS).length ≤ 4
    rw [List.length_map]
    exact h4
  · show xs.map vS ≠ []
    exact fun e => h5 (List.map_eq_nil_iff.mp e)
theorem row_dat {n : Nat} {v : V} (h : chkD v = true) : RowG "data" n (.dat v) := by
  unfold chkD smallB at h
  simp only [Bool.and_eq_true, decide_eq_true_eq] at h
  obtain ⟨⟨⟨⟨⟨h1, h2⟩, h3⟩, h4⟩, h5⟩, h6, h7⟩ := h
  refine ⟨⟨?_, rfl, h3⟩, fun z hz => ?_, ?_, ?_, flat_of h5, h6, h7⟩
  · show (if ("data" : Str) = "func" then _ else if readDat [vS v] = .non then none else some (MR.dat (readDat [vS v]))) = _
    rw [if_neg (by decide), h1, if_neg h2]
  · have hz : z ∈ [vS v] := hz
    rw [List.mem_singleton.mp hz]
    exact word_of h4
  · show [vS v].length ≤ 4
    simp
  · show [vS v] ≠ []
    simp
/-- a good piece -/
structure PcG (p : MP) : Prop where
  kind : p.kind = "func" ∨ p.kind = "data"
  few : p.rows.length ≤ 16
  rows : ∀ r ∈ p.rows, RowG p.kind p.rows.length r
/-! ### names with a number -/
def nsI (n : Nat) : Str := vS (.int (n : Int))
def eN (n : Nat) : Str := ("e" : Str) ++ nsI n
def qN (n : Nat) : Str := ("q" : Str) ++ nsI n
def pN (n : Nat) : Str := ("p" : Str) ++ nsI n
theorem e_name : ∀ n < 46, isName (eN n) = true ∧ wordB (eN n) = true := by decide +kernel
theorem q_name : ∀ n < 16, isName (qN n) = true ∧ wordB (qN n) = true := by decide +kernel
theorem p_name : ∀ n < 16, isName (pN n) = true ∧ wordB (pN n) = true := by decide +kernel
theorem e_nd : ((List.range 46).map eN).Nodup := by decide +kernel
theorem e_zz : ("zz" : Str) ∉ (List.range 46).map eN := by decide +kernel
theorem q_nd : ((List.range 16).map qN).Nodup := by decide +kernel
theorem p_nd : ((List.range 16).map pN).Nodup := by decide +kernel
theorem pq_ne : ∀ i < 16, ∀ j < 16, pN i ≠ qN j := by decide +kernel
theorem last_ne : ∀ i < 16, pN i ≠ "last" ∧ qN i ≠ "last" ∧ pN i ≠ "zz" ∧ qN i ≠ "zz" := by decide +kernel
theorem range_sub {n m : Nat} (h : n ≤ m) {f : Nat → Str} (nd : ((List.range m).map f).Nodup) : ((List.range n).map f).Nodup := by
  obtain ⟨k, rfl⟩ := Nat.exists_eq_add_of_le h
  rw [List.range_add, List.map_append] at nd
  exact (List.nodup_append.mp nd).1
/-! ### many items -/
theorem putAll_app : ∀ (a b : List TG.It) (st : ST), putAll (a ++ b) st = putAll b (putAll a st)
  | [], _, _ => rfl
  | t :: r, b, st => putAll_app r b (put st t)
theorem okAll_app : ∀ (a b : List TG.It) (st : ST), OkAll a st → OkAll b (putAll a st) → OkAll (a ++ b) st
  | [], _, _, _, h => h
  | t :: r, b, st, h, k => ⟨h.1, okAll_app r b (put st t) h.2 k⟩
theorem words_app (a b : List TG.It) : TG.wordsOf (a ++ b) = TG.wordsOf a ++ TG.wordsOf b := by
  unfold TG.wordsOf
  rw [List.map_append, List.flatten_append]
theorem ok_als : ∀ (l : List (Str × Str)) (st : ST), (∀ p ∈ l, isName p.1 = true ∧ isName p.2 = true) → (st.nm ++ l.map (·.1)).Nodup → OkAll (l.map fun p => TG.It.al p.1 p.2) st ∧ putAll (l.map fun p => TG.It.al p.1 p.2) st = { st with al := st.al ++ l, nm := st.nm ++ l.map (·.1) }
  | [], st, _, _ => ⟨True.intro, by
    show st = _
    simp⟩
  | p :: r, st, h, nd => by
    have e : (put st (.al p.1 p.2)).nm = st.nm ++ [p.1] := rfl
    have ih := ok_als r (put st (.al p.1 p.2)) (fun q hq => h q (List.mem_cons_of_mem _ hq)) (by
      rw [e, List.append_assoc]
      exact nd)
    refine ⟨⟨⟨(h p (List.mem_cons_self ..)).1, (h p (List.mem_cons_self ..)).2, ?_⟩, ih.1⟩, ?_⟩
    · rw [← Bool.not_eq_true]
      intro m
      have m := List.contains_iff_mem.mp m
      exact (List.nodup_append.mp nd).2.2 _ m _ (List.mem_cons_self ..) rfl
    · show putAll (r.map fun p => TG.It.al p.1 p.2) (put st (.al p.1 p.2)) = _
      rw [ih.2]
      unfold put
      dsimp only
      rw [List.append_assoc, List.append_assoc]
      rfl
theorem ok_pcs : ∀ (l : List MP) (st : ST), (∀ p ∈ l, isName p.name = true ∧ PcG p) → (st.nm ++ l.map (·.name)).Nodup → st.ps.length + l.length ≤ 12 → OkAll (l.map TG.It.pc) st ∧ putAll (l.map TG.It.pc) st = { st with ps := st.ps ++ l, nm := st.nm ++ l.map (·.name) }
  | [], st, _, _, _ => ⟨True.intro, by
    show st = _
    simp⟩
  | p :: r, st, h, nd, hl => by
    rw [List.length_cons] at hl
    have e : (put st (.pc p)).nm = st.nm ++ [p.name] := rfl
    have e2 : (put st (.pc p)).ps = st.ps ++ [p] := rfl
    have ih := ok_pcs r (put st (.pc p)) (fun q hq => h q (List.mem_cons_of_mem _ hq)) (by
      rw [e, List.append_assoc]
      exact nd) (by rw [e2, List.length_append, List.length_singleton]; omega)
    obtain ⟨g1, g2⟩ := h p (List.mem_cons_self ..)
    refine ⟨⟨⟨g2.kind, g1, ?_, by omega, g2.few, fun r hr => (g2.rows r hr).ok⟩, ih.1⟩, ?_⟩
    · rw [← Bool.not_eq_true]
      intro m
      have m := List.contains_iff_mem.mp m
      exact (List.nodup_append.mp nd).2.2 _ m _ (List.mem_cons_self ..) rfl
    · show putAll (r.map TG.It.pc) (put st (.pc p)) = _
      rw [ih.2]
      unfold put
      dsimp only
      rw [List.append_assoc, List.append_assoc]
      rfl
/-! ### what is drawn -/
structure Dr (ts : List TG.It) (j n k l : Nat) : Prop where
  ok : OkAll ts st0
  ex : (putAll ts st0).ex = (List.range n).map eN
  al : (putAll ts st0).al.map (·.1) = (List.range l).map qN
  al2 : ∀ p ∈ (putAll ts st0).al, p.2 ∈ [("x" : Str), "p0", "q0"]
  ps : (putAll ts st0).ps.map (·.name) = (List.range k).map pN
  psG : ∀ p ∈ (putAll ts st0).ps, PcG p
  nm : ∀ z ∈ (putAll ts st0).nm, (∃ i < k, z = pN i) ∨ ∃ i < l, z = qN i
  n3 : n ≤ 3 * j
  l1 : l ≤ j
  k1 : k ≤ j
  k12 : k ≤ 12
  row : ∀ ws ∈ TG.wordsOf ts, ws ≠ [] ∧ ∀ z ∈ ws, WordOk z
  sum : total (TG.wordsOf ts) ≤ 70 * j
  many : (TG.wordsOf ts).length ≤ 18 * j
theorem dr0 : Dr [] 0 0 0 0 := ⟨True.intro, rfl, rfl, (fun p h => nomatch h), rfl, (fun p h => nomatch h), (fun p h => nomatch h), by decide, by decide, by decide, by decide, (fun p h => nomatch h), by decide, by decide⟩
theorem Dr.mono {ts : List TG.It} {j n k l : Nat} (d : Dr ts j n k l) : Dr ts (j + 1) n k l := { d with n3 := by have := d.n3; omega, l1 := by have := d.l1; omega, k1 := by have := d.k1; omega, sum := by have := d.sum; omega, many := by have := d.many; omega }
theorem total_app (a b : List (List Str)) : total (a ++ b) = total a + total b := by
  unfold total
  rw [List.map_append, List.sum_append]
theorem words_one (t : TG.It) : TG.wordsOf [t] = itW t := by
  unfold TG.wordsOf
  rw [List.map_cons, List.map_nil, List.flatten_cons, List.flatten_nil, List.append_nil]
theorem len_of {α β : Type} {f : α → β} {g : Nat → β} {l : List α} {n : Nat} (h : l.map f = (List.range n).map g) : l.length = n := by
  have := congrArg List.length h
  rwa [List.length_map, List.length_map, List.length_range] at this
theorem word_kw : wordB "export" = true ∧ wordB "alias" = true ∧ wordB "func" = true ∧ wordB "data" = true ∧ wordB "end" = true := by decide +kernel
theorem range_app {n m : Nat} {f : Nat → Str} : (List.range n).map f ++ (List.range m).map (fun i => f (n + i)) = (List.range (n + m)).map f := by
  rw [List.range_add, List.map_append, List.map_map]
  rfl
theorem Dr.exS {ts : List TG.It} {j n k l m : Nat} (d : Dr ts j n k l) (hj : j < 15) (hm : 1 ≤ m) (hm3 : m ≤ 3) : Dr (ts ++ [.ex ((List.range m).map fun i => eN (n + i))]) (j + 1) (n + m) k l := by
  have n3 := d.n3
  have hpa : putAll (ts ++ [.ex ((List.range m).map fun i => eN (n + i))]) st0 = { putAll ts st0 with ex := (List.range (n + m)).map eN } := by
    rw [putAll_app]
    show TG.put (putAll ts st0) (.ex ((List.range m).map fun i => eN (n + i))) = _
    unfold TG.put
    dsimp only
    rw [d.ex, range_app]
  have nd : ((List.range (n + m)).map eN).Nodup := range_sub (by omega) e_nd
  refine ⟨okAll_app _ _ _ d.ok ⟨⟨fun e => ?_, fun e he => ?_, ?_⟩, True.intro⟩, ?_, ?_, ?_, ?_, ?_, ?_, by omega, by have := d.l1; omega, by have := d.k1; omega, d.k12, ?_, ?_, ?_⟩
  · have := congrArg List.length e
    simp at this
    omega
  · obtain ⟨i, hi, rfl⟩ := List.mem_map.mp he
    have := List.mem_range.mp hi
    exact (e_name _ (by omega)).1
  · rw [d.ex, range_app]
    exact nd
  · rw [hpa]
  · rw [hpa]; exact d.al
  · rw [hpa]; exact d.al2
  · rw [hpa]; exact d.ps
  · rw [hpa]; exact d.psG
  · rw [hpa]; exact d.nm
  · intro ws hws
    rw [words_app, words_one] at hws
    rcases List.mem_append.mp hws with h | h
    · exact d.row ws h
    · have h : ws ∈ [("export" : Str) :: (List.range m).map fun i => eN (n + i)] := h
      rw [List.mem_singleton.mp h]
      refine ⟨List.cons_ne_nil _ _, fun z hz => ?_⟩
      rcases List.mem_cons.mp hz with e | hz
      · rw [e]; exact word_of word_kw.1
      · obtain ⟨i, hi, rfl⟩ := List.mem_map.mp hz
        have := List.mem_range.mp hi
        exact word_of (e_name _ (by omega)).2
  · rw [words_app, words_one, total_app]
    have : total (itW (.ex ((List.range m).map fun i => eN (n + i)))) = m + 1 := by
      show (([("export" : Str) :: (List.range m).map fun i => eN (n + i)] : List (List Str)).map List.length).sum = _
      simp
    have := d.sum
    omega
  · rw [words_app, words_one, List.length_append]
    have : (itW (.ex ((List.range m).map fun i => eN (n + i)))).length = 1 := rfl
    have := d.many
    omega
theorem al_words : ∀ z ∈ [("x" : Str), "p0", "q0"], isName z = true ∧ wordB z = true := by decide +kernel
theorem not_q {nm : List Str} {k l : Nat} (h : ∀ z ∈ nm, (∃ i < k, z = pN i) ∨ ∃ i < l, z = qN i) (hk : k ≤ 15) (hl : l < 16) : nm.contains (qN l) = false := by
  rw [← Bool.not_eq_true]
  intro m
  rcases h _ (List.contains_iff_mem.mp m) with ⟨i, hi, e⟩ | ⟨i, hi, e⟩
  · exact pq_ne i (by omega) l hl e.symm
  · have nd := q_nd
    have := (List.getElem_inj (i := i) (j := l) (h₀ := by simp; omega) (h₁ := by simp; omega) nd).mp (by simpa using e.symm)
    omega
theorem not_p {nm : List Str} {k l : Nat} (h : ∀ z ∈ nm, (∃ i < k, z = pN i) ∨ ∃ i < l, z = qN i) (hk : k < 16) (hl : l ≤ 15) : nm.contains (pN k) = false := by
  rw [← Bool.not_eq_true]
  intro m
  rcases h _ (List.contains_iff_mem.mp m) with ⟨i, hi, e⟩ | ⟨i, hi, e⟩
  · have nd := p_nd
    have := (List.getElem_inj (i := i) (j := k) (h₀ := by simp; omega) (h₁ := by simp; omega) nd).mp (by simpa using e.symm)
    omega
  · exact pq_ne k hk i (by omega) e
theorem range_one (n : Nat) (f : Nat → Str) : (List.range (n + 1)).map f = (List.range n).map f ++ [f n] := by
  rw [List.range_succ, List.map_append]
  rfl
theorem Dr.alS {ts : List TG.It} {j n k l : Nat} (d : Dr ts j n k l) (hj : j < 15) {b : Str} (hb : b ∈ [("x" : Str), "p0", "q0"]) : Dr (ts ++ [.al (qN l) b]) (j + 1) n k (l + 1) := by
  have l1 := d.l1
  have hpa : putAll (ts ++ [.al (qN l) b]) st0 = { putAll ts st0 with al := (putAll ts st0).al ++ [(qN l, b)], nm := (putAll ts st0).nm ++ [qN l] } := by
    rw [putAll_app]
    rfl
  have hq := q_name l (by omega)
  have hb' := al_words b hb
  refine ⟨okAll_app _ _ _ d.ok ⟨⟨hq.1, hb'.1, not_q d.nm (by have := d.k12; omega) (by omega)⟩, True.intro⟩, ?_, ?_, ?_, ?_, ?_, ?_, by have := d.n3; omega, by omega, by have := d.k1; omega, d.k12, ?_, ?_, ?_⟩
  · rw [hpa]; exact d.ex
  · rw [hpa]
    dsimp only
    rw [List.map_append, d.al, range_one]
    rfl
  · rw [hpa]
    intro p hp
    rcases List.mem_append.mp hp with h | h
    · exact d.al2 p h
    · rw [List.mem_singleton.mp h]; exact hb
  · rw [hpa]; exact d.ps
  · rw [hpa]; exact d.psG
  · rw [hpa]
    intro z hz
    rcases List.mem_append.mp hz with h | h
    · rcases d.nm z h with h | ⟨i, h, e⟩
      · exact .inl h
      · exact .inr ⟨i, by omega, e⟩
    · exact .inr ⟨l, by omega, List.mem_singleton.mp h⟩
  · intro ws hws
    rw [words_app, words_one] at hws
    rcases List.mem_append.mp hws with h | h
    · exact d.row ws h
    · have h : ws ∈ [[("alias" : Str), qN l, b]] := h
      rw [List.mem_singleton.mp h]
      refine ⟨List.cons_ne_nil _ _, fun z hz => ?_⟩
      simp only [List.mem_cons, List.not_mem_nil, or_false] at hz
      rcases hz with rfl | rfl | rfl
      · exact word_of word_kw.2.1
      · exact word_of hq.2
      · exact word_of hb'.2
  · rw [words_app, words_one, total_app]
    have : total (itW (.al (qN l) b)) = 3 := rfl
    have := d.sum
    omega
  · rw [words_app, words_one, List.length_append]
    have : (itW (.al (qN l) b)).length = 1 := rfl
    have := d.many
    omega
theorem sum_le2 : ∀ (L : List (List Str)) (c : Nat), (∀ ws ∈ L, ws.length ≤ c) → total L ≤ c * L.length
  | [], _, _ => Nat.zero_le _
  | w :: r, c, h => by
    have h1 := h w (List.mem_cons_self ..)
    have h2 := sum_le2 r c fun y hy => h y (List.mem_cons_of_mem _ hy)
    unfold total at h2 ⊢
    rw [List.map_cons, List.sum_cons, List.length_cons, Nat.mul_succ]
    omega
theorem pc_words {p : MP} (g : PcG p) (hn : wordB p.name = true) : (∀ ws ∈ pcW p, ws ≠ [] ∧ ∀ z ∈ ws, WordOk z) ∧ total (pcW p) ≤ 67 ∧ (pcW p).length ≤ 18 := by
  have few := g.few
  refine ⟨fun ws hws => ?_, ?_, ?_⟩
  · unfold pcW at hws
    rcases List.mem_cons.mp hws with e | hws
    · rw [e]
      refine ⟨List.cons_ne_nil _ _, fun z hz => ?_⟩
      simp only [List.mem_cons, List.not_mem_nil, or_false] at hz
      rcases hz with rfl | rfl
      · rcases g.kind with e | e
        · rw [e]; exact word_of word_kw.2.2.1
        · rw [e]; exact word_of word_kw.2.2.2.1
      · exact word_of hn
    · rcases List.mem_append.mp hws with h | h
      · obtain ⟨r, hr, rfl⟩ := List.mem_map.mp h
        exact ⟨(g.rows r hr).ne, (g.rows r hr).wd⟩
      · rw [List.mem_singleton.mp h]
        refine ⟨List.cons_ne_nil _ _, fun z hz => ?_⟩
        rw [List.mem_singleton.mp hz]
        exact word_of word_kw.2.2.2.2
  · have : total (p.rows.map rW) ≤ 4 * (p.rows.map rW).length := sum_le2 _ 4 fun ws hws => by
      obtain ⟨r, hr, rfl⟩ := List.mem_map.mp hws
      exact (g.rows r hr).few
    rw [List.length_map] at this
    have e : total (pcW p) = 2 + (total (p.rows.map rW) + 1) := by
      unfold pcW total
      rw [List.map_cons, List.sum_cons, List.map_append, List.sum_append]
      rfl
    omega
  · unfold pcW
    rw [List.length_cons, List.length_append, List.length_map, List.length_singleton]
    omega
theorem Dr.pcS {ts : List TG.It} {j n k l : Nat} (d : Dr ts j n k l) (hj : j < 15) (hk : k < 12) {p : MP} (hn : p.name = pN k) (g : PcG p) : Dr (ts ++ [.pc p]) (j + 1) n (k + 1) l := by
  have l1 := d.l1
  have hpa : putAll (ts ++ [.pc p]) st0 = { putAll ts st0 with ps := (putAll ts st0).ps ++ [p], nm := (putAll ts st0).nm ++ [p.name] } := by
    rw [putAll_app]
    rfl
  have hq := p_name k (by omega)
  have hlen := len_of d.ps
  have pw := pc_words g (by rw [hn]; exact hq.2)
  refine ⟨okAll_app _ _ _ d.ok ⟨⟨g.kind, by rw [hn]; exact hq.1, by rw [hn]; exact not_p d.nm (by omega) (by omega), by rw [hlen]; exact hk, g.few, fun r hr => (g.rows r hr).ok⟩, True.intro⟩, ?_, ?_, ?_, ?_, ?_, ?_, by have := d.n3; omega, by omega, by have := d.k1; omega, by omega, ?_, ?_, ?_⟩
  · rw [hpa]; exact d.ex
  · rw [hpa]; exact d.al
  · rw [hpa]; exact d.al2
  · rw [hpa]
    dsimp only
    rw [List.map_append, d.ps, range_one, ← hn]
    rfl
  · rw [hpa]
    intro q hq
    rcases List.mem_append.mp hq with h | h
    · exact d.psG q h
    · rw [List.mem_singleton.mp h]; exact g
  · rw [hpa]
    intro z hz
    rcases List.mem_append.mp hz with h | h
    · rcases d.nm z h with ⟨i, h, e⟩ | h
      · exact .inl ⟨i, by omega, e⟩
      · exact .inr h
    · exact .inl ⟨k, by omega, by rw [List.mem_singleton.mp h]; exact hn⟩
  · intro ws hws
    rw [words_app, words_one] at hws
    rcases List.mem_append.mp hws with h | h
    · exact d.row ws h
    · exact pw.1 ws h
  · rw [words_app, words_one, total_app]
    have : total (itW (.pc p)) ≤ 67 := pw.2.1
    have := d.sum
    omega
  · rw [words_app, words_one, List.length_append]
    have : (itW (.pc p)).length ≤ 18 := pw.2.2
    have := d.many
    omega
theorem Dr.lines {ts : List TG.It} {j n k l : Nat} (d : Dr ts j n k l) (hj : j ≤ 16) : LinesOk (TG.wordsOf ts) := ⟨d.row, by have := d.sum; omega, by have := d.many; omega⟩
/-- what stands in the text of a module -/
def whole (st : ST) : List TG.It := (if st.ex = [] then [] else [.ex st.ex]) ++ (st.al.map (fun p => TG.It.al p.1 p.2) ++ st.ps.map TG.It.pc)
theorem Dr.whole {ts : List TG.It} {j n k l : Nat} (d : Dr ts j n k l) (hj : j ≤ 15) : OkAll (whole (putAll ts st0)) st0 ∧ (∃ nm, putAll (KD.whole (putAll ts st0)) st0 = ⟨(putAll ts st0).ps, (putAll ts st0).ex, (putAll ts st0).al, nm, none⟩) ∧ LinesOk (TG.wordsOf (KD.whole (putAll ts st0))) := by
  generalize hS : putAll ts st0 = S
  have dex := d.ex
  have dal := d.al
  have dal2 := d.al2
  have dps := d.ps
  have dpsG := d.psG
  rw [hS] at dex dal dal2 dps dpsG
  have n3 := d.n3
  have l1 := d.l1
  have k12 := d.k12
  have k1 := d.k1
  have lal := len_of dal
  have lps := len_of dps
  have alI : ∀ p ∈ S.al, isName p.1 = true ∧ isName p.2 = true ∧ wordB p.1 = true ∧ wordB p.2 = true := by
    intro p hp
    have h1 : p.1 ∈ S.al.map (·.1) := List.mem_map_of_mem hp
    rw [dal] at h1
    obtain ⟨i, hi, e⟩ := List.mem_map.mp h1
    have := List.mem_range.mp hi
    have h2 := q_name i (by omega)
    have h3 := al_words _ (dal2 p hp)
    rw [← e]
    exact ⟨h2.1, h3.1, h2.2, h3.2⟩
  have psI : ∀ p ∈ S.ps, isName p.name = true ∧ wordB p.name = true := by
    intro p hp
    have h1 : p.name ∈ S.ps.map (·.name) := List.mem_map_of_mem hp
    rw [dps] at h1
    obtain ⟨i, hi, e⟩ := List.mem_map.mp h1
    have := List.mem_range.mp hi
    have h2 := p_name i (by omega)
    rw [← e]
    exact h2
  have exI : ∀ e ∈ S.ex, isName e = true ∧ wordB e = true := by
    intro e he
    rw [dex] at he
    obtain ⟨i, hi, rfl⟩ := List.mem_map.mp he
    have := List.mem_range.mp hi
    exact e_name i (by omega)
  have h1 : OkAll (if S.ex = [] then [] else [TG.It.ex S.ex]) st0 ∧ putAll (if S.ex = [] then [] else [TG.It.ex S.ex]) st0 = { st0 with ex := S.ex } := by
    by_cases e : S.ex = []
    · rw [if_pos e, e]
      exact ⟨True.intro, rfl⟩
    · rw [if_neg e]
      refine ⟨⟨⟨e, fun z hz => (exI z hz).1, ?_⟩, True.intro⟩, rfl⟩
      rw [dex]
      exact range_sub (by omega) e_nd
  have ndA : (S.al.map (·.1)).Nodup := by rw [dal]; exact range_sub (by omega) q_nd
  have ndP : (S.ps.map (·.name)).Nodup := by rw [dps]; exact range_sub (by omega) p_nd
  have h2 := ok_als S.al { st0 with ex := S.ex } (fun p hp => ⟨(alI p hp).1, (alI p hp).2.1⟩) (by
    show (([] : List Str) ++ _).Nodup
    rw [List.nil_append]
    exact ndA)
  have h3 := ok_pcs S.ps { { st0 with ex := S.ex } with al := ([] : List (Str × Str)) ++ S.al, nm := ([] : List Str) ++ S.al.map (·.1) } (fun p hp => ⟨(psI p hp).1, dpsG p hp⟩) (by
    show ((([] : List Str) ++ S.al.map (·.1)) ++ S.ps.map (·.name)).Nodup
    rw [List.nil_append, List.nodup_append]
    refine ⟨ndA, ndP, fun x hx y hy e => ?_⟩
    rw [dal] at hx
    rw [dps] at hy
    obtain ⟨i, hi, rfl⟩ := List.mem_map.mp hx
    obtain ⟨i', hi', rfl⟩ := List.mem_map.mp hy
    have := List.mem_range.mp hi
    have := List.mem_range.mp hi'
    exact pq_ne i' (by omega) i (by omega) e.symm) (by
    show 0 + S.ps.length ≤ 12
    omega)
  refine ⟨okAll_app _ _ _ h1.1 (okAll_app _ _ _ (by rw [h1.2]; exact h2.1) (by rw [h1.2, h2.2]; exact h3.1)), ?_, ?_⟩
  · unfold KD.whole
    rw [putAll_app, putAll_app, h1.2, h2.2]
    exact ⟨_, h3.2⟩
  · have wA : TG.wordsOf (S.al.map fun p => TG.It.al p.1 p.2) = S.al.map fun p => [("alias" : Str), p.1, p.2] := by
      unfold TG.wordsOf
      rw [List.map_map]
      generalize S.al = L
      induction L with
      | nil => rfl
      | cons x r ih =>
        rw [List.map_cons, List.flatten_cons, ih]
        rfl
    have wP : ∀ L : List MP, (∀ p ∈ L, PcG p ∧ wordB p.name = true) → (∀ ws ∈ TG.wordsOf (L.map TG.It.pc), ws ≠ [] ∧ ∀ z ∈ ws, WordOk z) ∧ total (TG.wordsOf (L.map TG.It.pc)) ≤ 67 * L.length ∧ (TG.wordsOf (L.map TG.It.pc)).length ≤ 18 * L.length := by
      intro L
      induction L with
      | nil => intro _; exact ⟨(fun p h => nomatch h), Nat.zero_le _, Nat.zero_le _⟩
      | cons x r ih =>
        intro h
        have i1 := ih fun p hp => h p (List.mem_cons_of_mem _ hp)
        have i2 := pc_words (h x (List.mem_cons_self ..)).1 (h x (List.mem_cons_self ..)).2
        have e : TG.wordsOf ((x :: r).map TG.It.pc) = pcW x ++ TG.wordsOf (r.map TG.It.pc) := rfl
        rw [e, total_app, List.length_append, List.length_cons]
        refine ⟨fun ws hws => ?_, by omega, by omega⟩
        rcases List.mem_append.mp hws with h | h
        · exact i2.1 ws h
        · exact i1.1 ws h
    have hP := wP S.ps fun p hp => ⟨dpsG p hp, (psI p hp).2⟩
    have eW : TG.wordsOf (KD.whole S) = (if S.ex = [] then [] else [("export" : Str) :: S.ex]) ++ (S.al.map (fun p => [("alias" : Str), p.1, p.2]) ++ TG.wordsOf (S.ps.map TG.It.pc)) := by
      unfold KD.whole
      rw [words_app, words_app, wA]
      congr 1
      by_cases e : S.ex = []
      · rw [if_pos e, if_pos e]; rfl
      · rw [if_neg e, if_neg e]; rfl
    rw [eW]
    have tA : total (S.al.map fun p => [("alias" : Str), p.1, p.2]) ≤ 3 * S.al.length := by
      have := sum_le2 (S.al.map fun p => [("alias" : Str), p.1, p.2]) 3 fun ws hws => by
        obtain ⟨p, _, rfl⟩ := List.mem_map.mp hws
        simp
      rwa [List.length_map] at this
    have lex : S.ex.length = n := by rw [dex, List.length_map, List.length_range]
    have tE : total (if S.ex = [] then [] else [("export" : Str) :: S.ex]) ≤ n + 1 := by
      split
      · exact Nat.zero_le _
      · show (([("export" : Str) :: S.ex] : List (List Str)).map List.length).sum ≤ _
        simp
        omega
    have lE : (if S.ex = [] then [] else [("export" : Str) :: S.ex]).length ≤ 1 := by
      split <;> simp
    refine ⟨fun ws hws => ?_, ?_, ?_⟩
    · rcases List.mem_append.mp hws with h | h
      · by_cases e : S.ex = []
        · rw [if_pos e] at h
          cases h
        · rw [if_neg e] at h
          rw [List.mem_singleton.mp h]
          refine ⟨List.cons_ne_nil _ _, fun z hz => ?_⟩
          rcases List.mem_cons.mp hz with e | hz
          · rw [e]; exact word_of word_kw.1
          · exact word_of (exI z hz).2
      · rcases List.mem_append.mp h with h | h
        · obtain ⟨p, hp, rfl⟩ := List.mem_map.mp h
          refine ⟨List.cons_ne_nil _ _, fun z hz => ?_⟩
          simp only [List.mem_cons, List.not_mem_nil, or_false] at hz
          rcases hz with rfl | rfl | rfl
          · exact word_of word_kw.2.1
          · exact word_of (alI p hp).2.2.1
          · exact word_of (alI p hp).2.2.2
        · exact hP.1 ws h
    · rw [total_app, total_app]
      omega
    · rw [List.length_append, List.length_append, List.length_map]
      omega
theorem whole_words (S : ST) : TG.wordsOf (KD.whole S) = (if S.ex = [] then [] else [("export" : Str) :: S.ex]) ++ (S.al.map (fun p => [("alias" : Str), p.1, p.2]) ++ (S.ps.map pcW).flatten) := by
  unfold KD.whole
  rw [words_app, words_app]
  have wA : TG.wordsOf (S.al.map fun p => TG.It.al p.1 p.2) = S.al.map fun p => [("alias" : Str), p.1, p.2] := by
    unfold TG.wordsOf
    rw [List.map_map]
    generalize S.al = L
    induction L with
    | nil => rfl
    | cons x r ih =>
      rw [List.map_cons, List.flatten_cons, ih]
      rfl
  have wP : TG.wordsOf (S.ps.map TG.It.pc) = (S.ps.map pcW).flatten := by
    unfold TG.wordsOf
    rw [List.map_map]
    rfl
  rw [wA, wP]
  congr 1
  by_cases e : S.ex = []
  · rw [if_pos e, if_pos e]; rfl
  · rw [if_neg e, if_neg e]; rfl
/-- one item more -/
theorem Dr.last {ts : List TG.It} {j n k l : Nat} (d : Dr ts j n k l) (hj : j ≤ 15) (hk : k < 12) {v : V} (hv : chkD v = true) : OkAll (ts ++ [.pc ⟨"last", "data", [.dat v]⟩]) st0 ∧ LinesOk (TG.wordsOf (ts ++ [.pc ⟨"last", "data", [.dat v]⟩])) := by
  have g : PcG ⟨"last", "data", [.dat v]⟩ := ⟨.inr rfl, by simp, fun r hr => by rw [List.mem_singleton.mp hr]; exact row_dat hv⟩
  have pw := pc_words g (show wordB ("last" : Str) = true by decide +kernel)
  have l1 := d.l1
  refine ⟨okAll_app _ _ _ d.ok ⟨⟨.inr rfl, (show isName ("last" : Str) = true by decide +kernel), ?_, by rw [len_of d.ps]; exact hk, by simp, fun r hr => (g.rows r hr).ok⟩, True.intro⟩, fun ws hws => ?_, ?_, ?_⟩
  · rw [← Bool.not_eq_true]
    intro m
    rcases d.nm _ (List.contains_iff_mem.mp m) with ⟨i, hi, e⟩ | ⟨i, hi, e⟩
    · exact (last_ne i (by omega)).1 e.symm
    · exact (last_ne i (by omega)).2.1 e.symm
  · rw [words_app, words_one] at hws
    rcases List.mem_append.mp hws with h | h
    · exact d.row ws h
    · exact pw.1 ws h
  · rw [words_app, words_one, total_app]
    have := d.sum
    have : total (itW (.pc ⟨"last", "data", [.dat v]⟩)) ≤ 67 := pw.2.1
    omega
  · rw [words_app, words_one, List.length_append]
    have := d.many
    have : (itW (.pc ⟨"last", "data", [.dat v]⟩)).length ≤ 18 := pw.2.2
    omega
theorem Dr.exZ {ts : List TG.It} {j n k l : Nat} (d : Dr ts j n k l) (hj : j ≤ 15) : OkAll (ts ++ [.ex ["zz"]]) st0 ∧ LinesOk (TG.wordsOf (ts ++ [.ex ["zz"]])) := by
  have n3 := d.n3
  refine ⟨okAll_app _ _ _ d.ok ⟨⟨by simp, fun e he => by rw [List.mem_singleton.mp he]; decide +kernel, ?_⟩, True.intro⟩, fun ws hws => ?_, ?_, ?_⟩
  · rw [d.ex, List.nodup_append]
    refine ⟨range_sub (by omega) e_nd, by simp, fun x hx y hy e => ?_⟩
    rw [List.mem_singleton.mp hy] at e
    obtain ⟨i, hi, rfl⟩ := List.mem_map.mp hx
    have := List.mem_range.mp hi
    exact e_zz (by rw [← e]; exact List.mem_map_of_mem (List.mem_range.mpr (by omega)))
  · rw [words_app, words_one] at hws
    rcases List.mem_append.mp hws with h | h
    · exact d.row ws h
    · have h : ws ∈ [[("export" : Str), "zz"]] := h
      rw [List.mem_singleton.mp h]
      refine ⟨List.cons_ne_nil _ _, fun z hz => ?_⟩
      simp only [List.mem_cons, List.not_mem_nil, or_false] at hz
      rcases hz with rfl | rfl
      · exact word_of word_kw.1
      · exact word_of (by decide +kernel)
  · rw [words_app, words_one, total_app]
    have := d.sum
    have : total (itW (.ex ["zz"])) = 2 := rfl
    omega
  · rw [words_app, words_one, List.length_append]
    have := d.many
    have : (itW (.ex ["zz"])).length = 1 := rfl
    omega
theorem Dr.alZ {ts : List TG.It} {j n k l : Nat} (d : Dr ts j n k l) (hj : j ≤ 15) : OkAll (ts ++ [.al "zz" "x"]) st0 ∧ LinesOk (TG.wordsOf (ts ++ [.al "zz" "x"])) := by
  have l1 := d.l1
  have k12 := d.k12
  refine ⟨okAll_app _ _ _ d.ok ⟨⟨by decide +kernel, by decide +kernel, ?_⟩, True.intro⟩, fun ws hws => ?_, ?_, ?_⟩
  · rw [← Bool.not_eq_true]
    intro m
    rcases d.nm _ (List.contains_iff_mem.mp m) with ⟨i, hi, e⟩ | ⟨i, hi, e⟩
    · exact (last_ne i (by omega)).2.2.1 e.symm
    · exact (last_ne i (by omega)).2.2.2 e.symm
  · rw [words_app, words_one] at hws
    rcases List.mem_append.mp hws with h | h
    · exact d.row ws h
    · have h : ws ∈ [[("alias" : Str), "zz", "x"]] := h
      rw [List.mem_singleton.mp h]
      refine ⟨List.cons_ne_nil _ _, fun z hz => ?_⟩
      simp only [List.mem_cons, List.not_mem_nil, or_false] at hz
      rcases hz with rfl | rfl | rfl
      · exact word_of word_kw.2.1
      · exact word_of (by decide +kernel)
      · exact word_of (by decide +kernel)
  · rw [words_app, words_one, total_app]
    have := d.sum
    have : total (itW (.al "zz" "x")) = 3 := rfl
    omega
  · rw [words_app, words_one, List.length_append]
    have := d.many
    have : (itW (.al "zz" "x")).length = 1 := rfl
    omega
theorem lone {i : Nat} (hi : i < 16) {v : V} (hv : chkD v = true) : OkAll [.pc ⟨pN i, "data", [.dat v]⟩] st0 ∧ LinesOk (TG.wordsOf [.pc ⟨pN i, "data", [.dat v]⟩]) := by
  have g : PcG ⟨pN i, "data", [.dat v]⟩ := ⟨.inr rfl, by simp, fun r hr => by rw [List.mem_singleton.mp hr]; exact row_dat hv⟩
  have hq := p_name i hi
  have pw := pc_words g hq.2
  refine ⟨⟨⟨.inr rfl, hq.1, rfl, by decide, by simp, fun r hr => (g.rows r hr).ok⟩, True.intro⟩, ?_⟩
  rw [words_one]
  exact ⟨pw.1, by have : total (itW (.pc ⟨pN i, "data", [.dat v]⟩)) ≤ 67 := pw.2.1; omega, by have : (itW (.pc ⟨pN i, "data", [.dat v]⟩)).length ≤ 18 := pw.2.2; omega⟩
end KD

set_option Elab.async false
set_option linter.all false
set_option maxRecDepth 100000
set_option maxHeartbeats 4000000
/-! Sets of any kind of keys, with what their walk asks; set(l) and sorted of a set of texts. (After HandS.Set and HandS.SetFor, which tell the same of ints.) -/
namespace FS
open PySem PySem.Spec PyProof.Rows L2
section
variable {P : Program} {w : World} {κ : Type} [DecidableEq κ] {kd : PySem.KeyKind P w κ}
/-- no two entries have one key -/
def Dis (kd : PySem.KeyKind P w κ) (es : List (Int × Value)) : Prop := es.Pairwise fun e f => ∀ k, kd.is k e.2 = true → kd.is k f.2 = true → False
theorem Dis.perm {es fs : List (Int × Value)} (d : Dis kd es) (p : fs.Perm es) : Dis kd fs := (p.symm.pairwise_iff (fun h k a b => h k b a)).mp d
/-- a set whose table rises, so that it can be walked -/
def Wk (kd : PySem.KeyKind P w κ) (h : Heap) (a : Addr) (S : κ → Bool) (n : Nat) : Prop :=
  ∃ o es ep t, (h.get? a = some o ∧ o.ExactSet ∧ o.data = .set es ep t) ∧ (ElemsOf kd es.toList ∧ Dis kd es.toList ∧ ∀ k, S k = true ↔ ∃ e ∈ es.toList, kd.is k e.2 = true) ∧
    (es.size < scanBound ∧ t.fits es.size = true ∧ es.size = n) ∧ Ris t.place.toList ∧ (w.params.followText "set-order" = true ∨ t.led = true)
theorem Wk.there {h h' : Heap} {a : Addr} {S : κ → Bool} {n : Nat} (x : Wk kd h a S n) (k : ∀ o, h.get? a = some o → h'.get? a = some o) : Wk kd h' a S n := by
  obtain ⟨o, es, ep, t, ⟨z, r⟩, q⟩ := x
  exact ⟨o, es, ep, t, ⟨k o z, r⟩, q⟩
theorem Wk.like {h : Heap} {a : Addr} {S S' : κ → Bool} {n : Nat} (x : Wk kd h a S n) (e : ∀ k, S' k = S k) : Wk kd h a S' n := (funext e : S' = S) ▸ x
theorem wk_new {h : Heap} {a : Addr} {S : κ → Bool} (hS : ∀ k, S k = false) (ho : h.get? a = some { cls := .type "set", dict := none, data := .set #[] 0 (.fresh 0 0 (!w.params.followText "set-order")) }) : Wk kd h a S 0 := by
  refine ⟨_, #[], 0, _, ⟨ho, ⟨rfl, rfl, rfl⟩, rfl⟩, ⟨fun e he => by simp at he, .nil, fun k => by simp [hS k]⟩, ⟨by decide, rfl, rfl⟩, .nil, ?_⟩
  cases hf : w.params.followText "set-order" with
  | true => exact .inl rfl
  | false => exact .inr (by show (!false) = true; rfl)
variable {A : Around} {E : Value → Shared → Prop} {s : Shared} {a : Addr} {S : κ → Bool} {n : Nat}
theorem wk_tail {gv : Bool → Sem Unit} (hg : ∀ (b : Bool) (z : Shared) (Q' : Unit → Shared → Prop), Q' () z → wpAny (model P w) A (gv b) Q' E z) {o : Obj} {es e1 : Array (Int × Value)} {ep : Nat} {t t2 : SetTable} {S' : κ → Bool} {was : Bool} {R : Option Bool → Shared → Prop}
    (at0 : s.heap.get? a = some o ∧ o.ExactSet ∧ o.data = .set es ep t) (el : ElemsOf kd e1.toList) (di : Dis kd e1.toList) (me : ∀ k, S' k = true ↔ ∃ e ∈ e1.toList, kd.is k e.2 = true) (few : e1.size < scanBound) (fi : t2.fits e1.size = true) (ri : Ris t2.place.toList)
    (le : w.params.followText "set-order" = true ∨ t2.led = true) (hR : ∀ h', Heap.SameBut a s.heap h' → Wk kd h' a S' e1.size → R (some true) { s with heap := h' }) :
    wpAny (model P w) A (do
        storeSet a e1 t2
        if (!was && t2.tooFull) = true then do
            gv (relayAll t2 e1 (SetTable.grown e1.size)).2.2
            storeSet a (relayAll t2 e1 (SetTable.grown e1.size)).1 (relayAll t2 e1 (SetTable.grown e1.size)).2.1
            pure (some true)
          else pure (some true)) R E s := by
  obtain ⟨ho, hx, hd⟩ := at0
  refine wpAny_bind (wpAny_storeSet_of ho hd ?_ (fits_of_scanBound few))
  have put := store_at (es' := e1) (t' := t2) ho hd
  have but := Heap.SameBut.update s.heap a (Obj.putSet e1 t2)
  split
  · have p1 := relayAll_perm t2 e1 (SetTable.grown e1.size)
    have p2 := relayAll_fits t2 e1 (SetTable.grown e1.size)
    have p3 := relayAll_ris t2 e1 (SetTable.grown e1.size)
    have p4 := relayAll_led t2 e1 (SetTable.grown e1.size)
    generalize relayAll t2 e1 (SetTable.grown e1.size) = Z at p1 p2 p3 p4 ⊢
    obtain ⟨e2, t3, gave⟩ := Z
    dsimp only at p1 p2 p3 p4 ⊢
    have z2 : e2.size = e1.size := by rw [← Array.length_toList, p1.length_eq, Array.length_toList]
    refine wpAny_bind (hg _ _ _ (wpAny_bind (wpAny_storeSet_of put rfl (wpAny_pure (hR _ (but.trans (Heap.SameBut.update _ a _)) ?_)) (fits_of_scanBound (by omega)))))
    refine ⟨_, e2, _, t3, ⟨store_at (es' := e2) (t' := t3) put rfl, hx, rfl⟩, ⟨fun e he => el e (p1.mem_iff.mp he), di.perm p1, fun k => (me k).trans ⟨fun ⟨e, he, q⟩ => ⟨e, p1.mem_iff.mpr he, q⟩, fun ⟨e, he, q⟩ => ⟨e, p1.mem_iff.mp he, q⟩⟩⟩, ⟨by omega, p2, z2⟩, p3, le.imp id fun z => ?_⟩
    rw [p4]
    exact z
  · exact wpAny_pure (hR _ but ⟨_, e1, _, t2, ⟨put, hx, rfl⟩, ⟨el, di, me⟩, ⟨few, fi, rfl⟩, ri, le⟩)
theorem wk_add {k : κ} {x : Value} {Q : Bool → Shared → Prop} (hk : kd.is k x = true) (hs : x.scannable = true) (R : Wk kd s.heap a S n) (room : n + 1 < scanBound)
    (hQ : ∀ h' m, m ≤ n + 1 → Heap.SameBut a s.heap h' → Wk kd h' a (fun j => S j || decide (j = k)) m → Q (!S k) { s with heap := h' }) : wpAny (model P w) A (setAddHashed a x (kd.hash k)) Q E s := by
  obtain ⟨o, es, ep, t, ⟨ho, hx, hd⟩, ⟨el, di, me⟩, ⟨few, fi, sz⟩, ri, le⟩ := R
  unfold setAddHashed setAddHashedIn
  refine wpAny_holding (wpAny_bind (wpAny_setState_of ho hd fi ?_))
  dsimp only
  rw [byScan_of hs few el]
  simp only [↓reduceIte]
  unfold setAddByScan
  refine wpAny_bind (wpAny_bind (wpAny_rule (wpAny_bind (wpAny_setScan_of hk ho hd fi el ?_))))
  cases hfi : List.findIdx? (fun e => kd.is k e.2) es.toList with
  | some j =>
    dsimp only
    obtain ⟨hj, pj, _⟩ := List.findIdx?_eq_some_iff_getElem.mp hfi
    have hS : S k = true := (me k).2 ⟨_, List.getElem_mem hj, pj⟩
    refine wpAny_pure (wpAny_pure ?_)
    have q := hQ s.heap n (Nat.le_succ _) (Heap.SameBut.refl a s.heap) ⟨o, es, ep, t, ⟨ho, hx, hd⟩, ⟨el, di, fun i => ?_⟩, ⟨few, fi, sz⟩, ri, le⟩
    · rw [hS] at q
      exact q
    · rw [Bool.or_eq_true, decide_eq_true_eq, ← me i]
      exact ⟨fun z => z.elim id fun e => e ▸ hS, .inl⟩
  | none =>
    dsimp only
    have hS : S k = false := by
      cases q : S k with
      | false => rfl
      | true =>
        obtain ⟨e, he, z⟩ := (me k).1 q
        have c := List.findIdx?_eq_none_iff.mp hfi e he
        rw [z] at c
        cases c
    have give : ∀ (b : Bool) {z : Shared} {Q' : Unit → Shared → Prop}, Q' () z → wpAny (model P w) A (match b with | true => rule "set.scan.the-table-gave-way" | false => pure ()) Q' E z := fun b z Q' q => by
      cases b
      · exact wpAny_pure q
      · exact wpAny_rule q
    have p1 := layNew_perm t es (kd.hash k) x
    have p2 := layNew_fits t es (kd.hash k) x
    have p3 := layNew_ris t es (kd.hash k) x ri
    have p4 := layNew_led t es (kd.hash k) x
    generalize layNew t es (kd.hash k) x = Z at p1 p2 p3 p4 ⊢
    obtain ⟨e1, t1, was, gave⟩ := Z
    dsimp only at p1 p2 p3 p4 ⊢
    rw [Array.toList_push] at p1
    have el1 : ElemsOf kd e1.toList := (el.push hk hs).perm p1
    have me1 := mem_push_iff hk me p1
    have di1 : Dis kd e1.toList := by
      refine Dis.perm ?_ p1
      refine List.pairwise_append.mpr ⟨di, List.pairwise_singleton _ _, fun e he f hf i a b => ?_⟩
      rw [List.mem_singleton.mp hf] at b
      have c := List.findIdx?_eq_none_iff.mp hfi e he
      have : i = k := kd.inj _ _ _ b hk
      rw [this] at a
      rw [a] at c
      cases c
    have sz1 : e1.size = n + 1 := by
      rw [← Array.length_toList, p1.length_eq, List.length_append, Array.length_toList, sz]
      rfl
    have le1 : w.params.followText "set-order" = true ∨ t1.led = true := le.imp id fun z => by rw [p4]; exact z
    have fin : ∀ h', Heap.SameBut a s.heap h' → Wk kd h' a (fun j => S j || decide (j = k)) e1.size → Q true { s with heap := h' } := fun h' b r => by
      have q := hQ h' _ (Nat.le_of_eq sz1) b r
      rw [hS] at q
      exact q
    refine wpAny_bind (give _ ?_)
    split
    · refine wpAny_bind ?_
      rw [hashByValue_scannable 8 hs]
      refine wpAny_pure (wk_tail (kd := kd) (S' := fun j => S j || decide (j = k)) ?_ ⟨ho, hx, hd⟩ el1 di1 me1 (by omega) ?_ ?_ ?_ fun h' b r => ?_)
      · intro b z Q' q
        cases b
        · exact wpAny_pure q
        · exact wpAny_rule q
      · split
        · exact p2
        · exact SetTable.fits_plain_off p2
      · split <;> exact p3
      · split <;> exact le1
      · dsimp only
        exact wpAny_pure (fin h' b r)
    · refine wpAny_bind (wpAny_pure ?_)
      simp only [↓reduceIte]
      refine wk_tail (kd := kd) (S' := fun j => S j || decide (j = k)) ?_ ⟨ho, hx, hd⟩ el1 di1 me1 (by omega) p2 p3 le1 fun h' b r => ?_
      · intro b z Q' q
        cases b
        · exact wpAny_pure q
        · exact wpAny_rule q
      · dsimp only
        exact wpAny_pure (fin h' b r)
/-- what stands for the keys ks, turn by turn -/
def Each (kd : PySem.KeyKind P w κ) (ks : List κ) (at_ : Nat → Value → Prop) : Prop := ∀ i v, at_ i v → ∃ k, ks[i]? = some k ∧ kd.is k v = true ∧ v.scannable = true
theorem wk_update {I : Addr} {fp wr : List Addr} {G : Array GenState → Array GenState → Prop} {n : Nat} {Pv : Nat → Value → Prop} {St : Nat → Shared → Prop} {R : Result → Shared → Prop} (W : WalksS P w A.in1 I fp wr G n Pv St) (d : Addr) (nd : d ∉ fp) (ks : List κ) (hn : n = ks.length)
    (few : ks.length + 1 < scanBound) (each : Each kd ks Pv) : ∀ (m i : Nat) (z : Shared), n - i = m → i ≤ n → St i z → (∃ c, c ≤ i ∧ Wk kd z.heap d (fun j => decide (j ∈ ks.take i)) c) →
      (∀ z' c, Moved (d :: wr) G z z' → c ≤ n → Wk kd z'.heap d (fun j => decide (j ∈ ks)) c → R (.ok (.ret .none)) z') → codeAny (model P w) A (.builtin "set.update.loop" ⟨[.ref d, .ref I], []⟩) R z := by
  have dw : d ∉ wr := fun h => nd (W.sub _ h)
  have sub : ∀ b ∈ wr, b ∈ d :: wr := fun b hb => List.mem_cons_of_mem _ hb
  intro m
  induction m with
  | zero =>
    intro i z hm hi st ⟨c, hc, x⟩ hR
    obtain rfl : i = n := by omega
    refine codeAny_builtin F.entry_set_update_loop ?_
    rw [Around.under_plainId F.plain_set_update_loop _]
    show wpAny _ A.in1 (pyNext (.ref I) >>= _) _ _ z
    refine wpAny_bind (W.done z _ _ st fun z' mv => ?_)
    rw [List.take_of_length_le (by omega : ks.length ≤ i)] at x
    exact wpAny_pure (hR z' c (mv.mono sub) hc (x.there fun o e => mv.heap d o dw e))
  | succ m ih =>
    intro i z hm hi st ⟨c, hc, x⟩ hR
    have lt : i < n := by omega
    refine codeAny_builtin F.entry_set_update_loop ?_
    rw [Around.under_plainId F.plain_set_update_loop _]
    show wpAny _ A.in1 (pyNext (.ref I) >>= _) _ _ z
    refine wpAny_bind (W.item i z _ _ lt st fun v z' pv st' mv => ?_)
    obtain ⟨k, hk, is, sc⟩ := each i v pv
    have x' := x.there (fun o e => mv.heap d o dw e)
    show wpAny _ A.in1 (holding [v] (setAdd d v) >>= _) _ _ z'
    refine wpAny_bind (wpAny_holding ?_)
    unfold setAdd
    refine wpAny_holding (wpAny_bind (kd.pyHash (k := k) is ?_))
    refine wk_add (s := { z' with toks := z'.toks + 1 }) is sc x' (by omega) fun h' c' hc' sb y => ?_
    have y' : Wk kd h' d (fun j => decide (j ∈ ks.take (i + 1))) c' := y.like fun j => by
      rw [List.take_add_one, hk]
      simp [List.mem_append]
    refine wpAny_pure ⟨plainId_quiet F.plain_set_update_loop _, ih (i + 1) _ (by omega) lt (W.frame _ z' _ _ st' (Nat.le_succ _) fun b hb o e => ?_) ⟨c', by omega, y'⟩ fun z2 c2 m2 h2 y2 => hR z2 c2 (Moved.trans W.gtrans ((mv.mono sub).then_heap (Nat.le_succ _) fun b o hb e => ?_) m2) h2 y2⟩
    · rw [sb.2 b fun h : b = d => nd (h ▸ hb)]
      exact e
    · rw [sb.2 b fun h : b = d => hb (h ▸ List.mem_cons_self ..)]
      exact e
set_option maxHeartbeats 3200000 in
theorem wk_of_list {l : Addr} {items : Array Value} (ks : List κ) {Q : Value → Shared → Prop} (hh : A.handled = none) (hl : s.heap.IsList l items) (hisz : items.size = ks.length) (hval : Each kd ks fun i v => items[i]? = some v) (hb : ks.length + 1 < scanBound)
    (h : ∀ (h' : Heap) (tk c : Nat), Wk kd h' s.heap.objs.size (fun j => decide (j ∈ ks)) c → c ≤ ks.length → (∀ b o, s.heap.get? b = some o → h'.get? b = some o) → Q (.ref s.heap.objs.size) { s with heap := h', toks := tk }) :
    wpAny (model P w) A (call (.type "set") [.ref l]) Q E s := by
  obtain ⟨c, tl, hmro⟩ := F.called_set.mro
  have hmade := F.called_set.made
  have hsub := F.called_set.sub
  refine wpAny_call (codeAny_of_tree ?_)
  show wpAny _ _ (callAny (.type "set") _) _ _ _
  refine wpAny_pure ⟨Code.quiet_builtin _ (by decide +kernel), codeAny_builtin F.entry_type_call ?_⟩
  rw [Around.under_plain (weight_type_call_type "set" [.ref l] []) rfl]
  have h1 := F.called_set.notType
  have h2 := F.called_set.canCreate
  have hct := F.typeCall_set_1 (.ref l)
  repeat (any_goals (first | assumption | wp_step))

  refine codeAny_mono (L2.code_set_led1 (.ref l) (E := E) (Q₁ := fun obj s₁ => obj = .ref s.heap.objs.size ∧ s₁ = { s with heap := s.heap.push { cls := .type "set", dict := none, data := .set #[] 0 (.fresh 0 0 (!w.params.followText "set-order")) } }) ⟨rfl, rfl⟩) fun r s₁ hr => ?_
  cases r with
  | error e => exact hr
  | ok fl =>
    cases fl with
    | ret obj =>
      obtain ⟨rfl, rfl⟩ := hr
      have hS : (s.heap.push { cls := .type "set", dict := none, data := .set #[] 0 (.fresh 0 0 (!w.params.followText "set-order")) }).get? s.heap.objs.size = some { cls := .type "set", dict := none, data := .set #[] 0 (.fresh 0 0 (!w.params.followText "set-order")) } := Heap.get?_push_size _ rfl
      have hT : Shared.TypeIs { s with heap := s.heap.push { cls := .type "set", dict := none, data := .set #[] 0 (.fresh 0 0 (!w.params.followText "set-order")) } } (.ref s.heap.objs.size) "set" := ⟨_, hS, rfl⟩
      have hli := F.called_set.init.lookup
      have hbi := F.called_set.init.bind (.ref s.heap.objs.size)
      repeat (any_goals (first | assumption | wp_step))

      refine codeAny_mono (codeAny_call_builtin (R := wants (fun r s₂ => r = .none ∧ ∃ h' tk c, s₂ = { s with heap := h', toks := tk } ∧ Wk kd h' s.heap.objs.size (fun j => decide (j ∈ ks)) c ∧ c ≤ ks.length ∧
          (∀ b o, s.heap.get? b = some o → h'.get? b = some o)) E) F.called_set.init.plain F.entry_set_init (check_set_init_1 hT ?_)) fun r₂ s₂ hr₂ => ?_
      · obtain ⟨ol, hol, hcl, nl, hdl⟩ := hl
        obtain ⟨ocls, odict, odata, oslots⟩ := ol
        simp only at hcl hdl
        subst hcl; subst hdl
        have hol' : (s.heap.push { cls := .type "set", dict := none, data := .set #[] 0 (.fresh 0 0 (!w.params.followText "set-order")) }).get? l = some { cls := .type "list", dict := odict, data := .seq items nl, slots := oslots } := Heap.get?_push_of_some _ hol
        have hsls := F.sub_list_set
        have hslf := F.sub_list_frozenset
        have hne : (Value.type "list" == Value.type "dict") = false := by decide
        have hl1 : (s.heap.push { cls := .type "set", dict := none, data := .set #[] 0 (.fresh 0 0 (!w.params.followText "set-order")) }).IsList l items := ⟨_, hol', rfl, nl, rfl⟩
        unfold Builtin.«set.__init__» noKeywords Builtin.Frozenset.updateFrom
        generalize hPI : pyIter = PI
        wp_walk
        subst hPI

        refine wpAny_pyIter_list hl1 ?_
        refine wpAny_bind (wpAny_runValue ?_)
        have hlS : l < s.heap.objs.size := Heap.lt_size hol
        have hh3 : A.in1.in1.in1.handled = none := by simp [hh]
        have hz1 : (s.heap.push { cls := .type "set", dict := none, data := .set #[] 0 (.fresh 0 0 (!w.params.followText "set-order")) }).objs.size = s.heap.objs.size + 1 := Heap.size_push ..
        have hneI : l ≠ (s.heap.push { cls := .type "set", dict := none, data := .set #[] 0 (.fresh 0 0 (!w.params.followText "set-order")) }).objs.size := by
          rw [Heap.size_push]; exact Nat.ne_of_lt (Nat.lt_succ_of_lt hlS)
        have hSf : s.heap.objs.size ∉ [(s.heap.push { cls := .type "set", dict := none, data := .set #[] 0 (.fresh 0 0 (!w.params.followText "set-order")) }).objs.size, l] := by
          rw [Heap.size_push]; simp only [List.mem_cons, List.mem_singleton, List.not_mem_nil, or_false, not_or]
          exact ⟨Nat.ne_of_lt (Nat.lt_succ_self _), Nat.ne_of_gt hlS⟩
        refine wk_update (kd := kd) ((Walks.list hh3 _ l hneI items).toS) s.heap.objs.size
          hSf ks hisz hb hval (items.size - 0) 0 _ (by omega) (Nat.zero_le _)
          ⟨⟨_, Heap.get?_push_size _ rfl, rfl, rfl⟩, (hl1.push _)⟩ ?hS0 ?hR
        case hS0 =>
          have hget : ((s.heap.push { cls := .type "set", dict := none, data := .set #[] 0 (.fresh 0 0 (!w.params.followText "set-order")) }).push { cls := .type "list_iterator", data := .fields #[.ref l, .int 0 0] }).get? s.heap.objs.size
              = some { cls := .type "set", dict := none, data := .set #[] 0 (.fresh 0 0 (!w.params.followText "set-order")) } := Heap.get?_push_of_some _ hS
          exact ⟨0, Nat.le_refl 0, wk_new (fun j => by simp) hget⟩
        case hR =>
          intro s' c' hm hc' hS'
          obtain ⟨h', g2, d', tk', os'⟩ := s'
          have eg : g2 = s.gens := hm.gens
          have ed : d' = s.drawn := hm.drawn
          have eo : os' = s.os := hm.os
          subst eg; subst ed; subst eo
          show wpAny _ _ _ _ _ _
          refine wpAny_pure ?_
          show wpAny _ _ (ret Value.none) _ _ _
          rw [hisz] at hc'
          refine wpAny_pure ⟨rfl, h', tk', c', rfl, hS', hc', fun b o e => ?_⟩
          have hb0 : b < s.heap.objs.size := Heap.lt_size e
          have hb1 : b ≠ s.heap.objs.size := Nat.ne_of_lt hb0
          have hb2 : b ≠ (s.heap.push { cls := .type "set", dict := none, data := .set #[] 0 (.fresh 0 0 (!w.params.followText "set-order")) }).objs.size := by
            rw [Heap.size_push]; exact Nat.ne_of_lt (Nat.lt_succ_of_lt hb0)
          exact hm.heap b o (by simp only [List.mem_cons, List.mem_singleton, List.not_mem_nil, or_false, not_or]; exact ⟨hb1, hb2⟩) (Heap.get?_push_of_some _ (Heap.get?_push_of_some _ e))

      · cases r₂ with
        | error e => exact hr₂
        | ok fl₂ =>
          cases fl₂ with
          | ret r =>
            obtain ⟨rfl, h', tk, c', rfl, hS', hc', hk'⟩ := hr₂
            repeat (any_goals (first | assumption | wp_step))
            exact h _ _ _ hS' hc' hk'
          | _ => exact hr₂.elim
    | _ => exact hr.elim
end
section
variable {P : Program} {w : World} {A : Around} {E : Value → Shared → Prop} {s : Shared}
theorem strs_kind {es : List (Int × Value)} (el : ElemsOf (PySem.strKind P w) es) : ∃ ks : List Str, StrsAre (es.map (·.2)) ks ∧ ∀ z, (∃ e ∈ es, (PySem.strKind P w).is z e.2 = true) ↔ z ∈ ks := by
  induction es with
  | nil => exact ⟨[], .nil, fun z => by simp⟩
  | cons e r ih =>
    obtain ⟨ks, h1, h2⟩ := ih fun f hf => el f (List.mem_cons_of_mem _ hf)
    obtain ⟨⟨k, hk, _⟩, _⟩ := el e (List.mem_cons_self ..)
    obtain ⟨t, et⟩ := Value.isStrOf_shape hk
    refine ⟨k :: ks, ?_, fun z => ?_⟩
    · show StrsAre (e.2 :: r.map (·.2)) _
      rw [et]
      exact .cons k t h1
    · rw [List.mem_cons, ← h2 z]
      constructor
      · rintro ⟨f, hf, q⟩
        rcases List.mem_cons.mp hf with rfl | hf
        · exact .inl ((PySem.strKind P w).inj _ _ _ q hk)
        · exact .inr ⟨f, hf, q⟩
      · rintro (rfl | ⟨f, hf, q⟩)
        · exact ⟨e, List.mem_cons_self .., hk⟩
        · exact ⟨f, List.mem_cons_of_mem _ hf, q⟩
theorem strs_mem : ∀ {vs : List Value} {ks : List Str} {k : Str}, StrsAre vs ks → k ∈ ks → ∃ u ∈ vs, ∃ t, u = .str k t
  | _, _, _, .nil, h => by cases h
  | _, _, _, .cons x t r, h => by
    rcases List.mem_cons.mp h with rfl | h
    · exact ⟨_, List.mem_cons_self .., t, rfl⟩
    · obtain ⟨u, hu, q⟩ := strs_mem r h
      exact ⟨u, List.mem_cons_of_mem _ hu, q⟩
theorem strs_perm {vs us : List Value} (p : us.Perm vs) : ∀ {ks : List Str}, StrsAre vs ks → ∃ qs, StrsAre us qs ∧ qs.Perm ks := by
  induction p with
  | nil => exact fun h => ⟨_, h, .refl _⟩
  | cons u _ ih =>
    intro ks h
    cases h with
    | cons x t h =>
      obtain ⟨qs, a, b⟩ := ih h
      exact ⟨x :: qs, .cons x t a, .cons x b⟩
  | swap u v r =>
    intro ks h
    cases h with
    | cons x t h =>
      cases h with
      | cons y t' h => exact ⟨_, .cons y t' (.cons x t h), .swap ..⟩
  | trans _ _ i1 i2 =>
    intro ks h
    obtain ⟨qs, a, b⟩ := i2 h
    obtain ⟨rs, c, d⟩ := i1 a
    exact ⟨rs, c, d.trans b⟩
theorem strs_ix : ∀ {vs : List Value} {ks : List Str} {i : Nat} {v : Value}, StrsAre vs ks → vs[i]? = some v → ∃ k t, ks[i]? = some k ∧ v = .str k t
  | _, _, _, _, .nil, h => by cases h
  | _, _, 0, _, .cons x t _, h => by
    cases h
    exact ⟨x, t, rfl, rfl⟩
  | _, _, i + 1, _, .cons _ _ r, h => strs_ix (i := i) r h
theorem strs_nodup : ∀ {es : List (Int × Value)} {ks : List Str}, Dis (PySem.strKind P w) es → StrsAre (es.map (·.2)) ks → ks.Nodup
  | [], _, _, h => by
    cases h
    exact .nil
  | e :: r, _, d, h => by
    have h : StrsAre (e.2 :: r.map (·.2)) _ := h
    generalize he : e.2 = v at h
    generalize hr : r.map (·.2) = vr at h
    cases h with
    | cons k t h2 =>
      have d' := List.pairwise_cons.mp d
      subst hr
      refine List.nodup_cons.mpr ⟨fun hk => ?_, strs_nodup d'.2 h2⟩
      obtain ⟨u, hu, tu, eu⟩ := strs_mem h2 hk
      obtain ⟨f, hf, rfl⟩ := List.mem_map.mp hu
      refine d'.1 f hf k ?_ ?_
      · rw [he]
        exact strKind_is _ _ _ _
      · rw [eu]
        exact strKind_is _ _ _ _
/-- sorted(d), d a set of texts -/
theorem sorted_wk {a : Addr} {S : Str → Bool} {n : Nat} {Q : Value → Shared → Prop} (R : Wk (PySem.strKind P w) s.heap a S n) (hh : A.handled = none) (few : n < 64)
    (hQ : ∀ (s' : Shared) (p : Addr) (out : Array Value) (c : Nat) (ys : List Str), (∀ b o, s.heap.get? b = some o → s'.heap.get? b = some o) → s'.gens = s.gens ∧ s'.os = s.os → s.heap.objs.size ≤ p → s'.heap.get? p = some (seqObj "list" out c) → StrsAre out.toList ys →
      sortedS ys = true → ys.Nodup → (∀ z, z ∈ ys ↔ S z = true) → ys.length = n → Q (.ref p) s') : wpAny (model P w) A (call (.builtin "sorted") [.ref a]) Q E s := by
  obtain ⟨o, es, ep, t, ⟨ho, hx, hd⟩, ⟨el, di, me⟩, ⟨fw, fi, sz⟩, ri, le⟩ := R
  refine Calls.call_function_entry kind_sorted plain_sorted entry_sorted (args_sorted1 _) ?_
  show wpAny _ _ (do checkCount "sorted" 1 1 1; let l ← newList (← collect (.ref a)); let _ ← holding [l] (call (.builtin "list.sort") [l] []); ret l) _ _ _
  refine wpAny_bind (m := checkCount "sorted" 1 1 1) (wpAny_pure (wpAny_bind (collect_set (A := A.in1) hh ⟨o, ho, hx.1, hd⟩ fi fw ri le fun s1 vs k1 z1 g1 o1 pm => ?_)))
  obtain ⟨ks, hks, hmk⟩ := strs_kind el
  have ndk := strs_nodup di hks
  obtain ⟨qs, hS, pq⟩ := strs_perm pm hks
  have lv : vs.length = n := by rw [pm.length_eq, List.length_map, Array.length_toList]; exact sz
  refine wpAny_bind (wpAny_newList ?_ (by rw [lv, sizeLine_eq]; omega))
  have at1 : (s1.heap.push (seqObj "list" vs.toArray 0)).get? s1.heap.objs.size = some (seqObj "list" vs.toArray 0) := Heap.get?_push_size _ rfl
  refine wpAny_bind (wpAny_holding (wpAny_call_entry slot_list_sort ⟨_, at1, rfl⟩ entry_list_sort (list_sort_treeK strKind_oneLt at1 hS.keysOf (fun a b r e => keyKind_strs (by rw [← e]; exact hS)) (by omega) fun st hp hs => ⟨_, rfl, ?_⟩) (args_list_sort _)))
  obtain ⟨ys, q1, q2, q3⟩ := sorted_out_str hS hp hs
  obtain ⟨e, at2⟩ := sortedHeap_at (out := (arrOf st).map (·.2)) at1
  have py := q2.trans pq
  refine wpAny_pure ⟨_, rfl, hQ _ _ _ e ys (fun b ob hb => ?_) ⟨g1, o1⟩ z1 at2 q1 q3 (py.nodup_iff.mpr ndk) (fun z => by rw [py.mem_iff, ← hmk z, me z]) ?_⟩
  · have k2 := k1 b ob hb
    have lb := Heap.lt_size k2
    show (sortedHeap (s1.heap.push (seqObj "list" vs.toArray 0)) s1.heap.objs.size vs ((arrOf st).map (·.2))).get? b = some ob
    rw [sortedHeap_old (Nat.ne_of_lt lb) (by rw [size_push']; exact Nat.lt_succ_of_lt lb)]
    exact Heap.get?_push_of_some _ k2
  · rw [py.length_eq, ← hks.len_eq, List.length_map, Array.length_toList]
    exact sz
end
section
variable {X : Cx}
def tSortSet (K : PySem.W.Frag) (te : TE) : TE := fun σ H Q => te σ H fun x H1 => ∃ (l : Addr) (ks : List Str), x = .ref l ∧ SqL K H1 l (ks.map V.str) ∧ ks.length < 64 ∧ ∀ p H' (ys : List Str), Same H1 H' → H1 p = none → H' p = some (.lst (ys.map V.str)) → sortedS ys = true → ys.Nodup → (∀ z, z ∈ ys ↔ z ∈ ks) → ys.length ≤ ks.length → Q (.ref p) H'
theorem pe_sortSet {e : Expr} {te : TE} {p1 p2 p3 p4 : Pos} (hc : X.calm = true) (hg : Gl X "sorted") (hm : X.mg "sorted" = none) (hg2 : Gl X "set") (hm2 : X.mg "set" = none) (he : PE X e te)
    (one : starEach [e] X.env = (false, eval e X.env) :: starEach [] X.env := by rfl) (two : starEach [.Call (.Name "set" p2) [e] [] p3] X.env = (false, eval (.Call (.Name "set" p2) [e] [] p3) X.env) :: starEach [] X.env := by rfl) :
    PE X (.Call (.Name "sorted" p1) [.Call (.Name "set" p2) [e] [] p3] [] p4) (tSortSet X.K te) := by
  refine ⟨fun pins s σ H Q I h => Call_ (ld_blt (u := .builtin "sorted") I hg hm (by decide +kernel) (PyProof.Rows.callWith_builtin1 (args_cons (Call_ (ld_blt (u := .type "set") I hg2 hm2 (by decide +kernel) (PyProof.Rows.callWith_type1 (args_cons (thn (he.run pins s σ H _ I h) ?_) one) one rfl))) two) two rfl))⟩
  rintro u z ⟨v, H1, J, hu, l, ks, rfl, hl, few, q⟩
  obtain rfl : u = Value.ref l := hu
  obtain ⟨its, vals, pl, small⟩ := J.list hl
  have sa := vals.strs
  have li := sa.len_eq
  refine args_nil (wk_of_list (kd := PySem.strKind X.prog X.w) ks (J.ok.hd hc) pl.isList (by rw [List.size_toArray]; exact li) (fun i v hv => ?_) (Nat.lt_of_le_of_lt (by omega : ks.length + 1 ≤ 64) (by decide +kernel)) fun h' tk c R hc' keep => args_nil ?_)
  · obtain ⟨k, t, hk, et⟩ := strs_ix sa (by simpa using hv)
    subst et
    exact ⟨k, hk, strKind_is _ _ _ _, rfl⟩
  have I1 : Inv X pins σ H1 { z with heap := h', toks := tk } := J.kept keep
  refine sorted_wk (s := { z with heap := h', toks := tk }) R (J.ok.hd hc) (by omega) fun s' p out cc ys k ⟨g, o⟩ hp hg' hi hs hn hm' hl' => ?_
  have ln : (ys.map V.str).length ≤ sizeLine := by rw [List.length_map, hl', sizeLine_eq]; omega
  have nf : H1 p = none := I1.hok.fresh hp
  have I2 : Inv X pins σ (upd H1 p (.lst (ys.map V.str))) { { z with heap := h', toks := tk } with heap := s'.heap, gens := s'.gens, drawn := s'.drawn, toks := s'.toks } :=
    I1.call (ch := []) (Un.laid k hp nf) (I1.hok.laid k hp ⟨ln, out.toList, cc, vals_of_strs hi, hg'⟩) (by rw [g]; exact I1.bare) (fun _ z => nomatch z)
  have es : s' = { { z with heap := h', toks := tk } with heap := s'.heap, gens := s'.gens, drawn := s'.drawn, toks := s'.toks } := by
    cases s'
    cases o
    rfl
  rw [es]
  exact ⟨.ref p, _, I2, rfl, q p _ ys (same_new nf) nf upd_same hs hn (fun z => by rw [hm' z, decide_eq_true_eq]) (by omega)⟩
end
end FS

set_option Elab.async false
set_option linter.all false
set_option maxRecDepth 100000
set_option maxHeartbeats 4000000
/-! iter of a tuple; a for over an own instance whose __iter__ hands back such. -/
namespace FS
open PySem PySem.Spec PyProof.Rows L2 ItX
/-- at it a new iterator over the tuple at l -/
def ItT (l it : Addr) : HO := .ext fun h => h.IsTupleIter it l 0
theorem itT_ok {P : Program} {w : World} {H : Hp} {h : Heap} {l it : Addr} (e : h.IsTupleIter it l 0) : ObjOk P w H h it (ItT l it) := by
  obtain ⟨o, a, b⟩ := e
  exact ⟨⟨o, a, b⟩, ⟨o, a⟩, fun h1 h2 ⟨o', a', b'⟩ k => ⟨o', k _ a', b'⟩⟩
section
variable {prog : Program} {w : World} {A : Around} {E : Value → Shared → Prop} {s : Shared} {l : Addr} {items : Array Value}
theorem call_iter_tup {Q : Value → Shared → Prop} (hl : s.heap.IsTuple l items) (h : Q (.ref s.heap.objs.size) { s with heap := s.heap.push { cls := .type "tuple_iterator", data := .fields #[.ref l, .int 0 0] } }) : wpAny (model prog w) A (call (.builtin "iter") [.ref l]) Q E s := by
  refine Calls.call_function_entry (by decide +kernel) (by decide +kernel) PySem.W.kdk_entry_iter (PySem.W.kdk_args_iter _) ?_
  unfold Builtin.«iter»
  refine wpAny_bind (m := someArgs "iter" 1 2 _) (wpAny_of_eq (a := [Value.ref l]) (by first | rfl | kernel_rfl!) ?_)
  show wpAny _ _ (pyIter (.ref l) >>= _) _ _ _
  refine wpAny_bind (wpAny_pyIter_tuple hl ?_)
  exact wpAny_pure ⟨_, rfl, h⟩
end
/-- a def whose promise may speak of how many objects stood when it was called -/
structure FnN (P : Program) (w : World) (K : PySem.W.Frag) (mg : Str → Option Value) (base : Heap) (k : Nat) (f : Addr) (fd : FuncData) (ps : List Str) (sp : Nat → Sp) : Prop where
  len : ∀ n vs H Q E, sp n vs H Q E → vs.length = ps.length
  run : ∀ (A : Around) (out1 : List Env) (st1 : Shared) (H : Hp) (args : Args) (us : List Value) (vs : List V) (Q : VK) (E : XK), Room k A → Env0 P w K mg base A out1 st1 H → BindsTo st1 fd args (ps.zip us) → Vals vs us → sp st1.heap.objs.size vs H Q E →
    codeAny (model P w) A (.call (.ref f) args) (CR CX0 out1 P w H st1 Q E) st1
section
variable {P : Program} {w : World} {K : PySem.W.Frag} {mg : Str → Option Value} {base : Heap}
theorem okN {x qual : Str} {st : Stmt} {f : Addr} {fd : FuncData} {N ps : List Str} {k : Nat} {sp : Nat → Sp} (F : Fun K x qual st f fd) (S : FnScope N ps (defScope st)) (hlen : ∀ n vs H Q E, sp n vs H Q E → vs.length = ps.length)
    (hbd : ∀ (cdv : Value) (A : Around) (out1 : List Env) (st1 : Shared) (H : Hp) (vs : List V) (Q : VK) (E : XK), Room k (A.deeper (envOfC qual (defScope st) st1.heap.objs.size f cdv)) → sp st1.heap.objs.size vs H Q E →
      ∃ t, PSs (cxOf CX0 P w K mg base N qual (defScope st) f cdv A out1 st1 H E).nox (defBody st) t ∧ t { nx := fun _ H' => Q .non H', rt := Q } (start N vs) H) : FnN P w K mg base (k + 1) f fd ps sp := by
  obtain ⟨oc, od, kV, doc, pm, an, cdv, ct, osl, rfl, lk, hcd⟩ := F.ex
  refine ⟨hlen, fun A out1 st1 H args us vs Q E hr1 en0 hb1 rv1 hsp1 => ?_⟩
  have hl1 := hlen _ _ _ _ _ hsp1
  have KX1 : K.In st1.heap := en0.mod.kin.keeps fun b1 o1 e1 => (en0.bs b1 o1 e1).1
  have lim1 : st1.heap.NoLimit := en0.mod.nolimit.keeps fun b1 o1 e1 => (en0.bs b1 o1 e1).1
  have hknd : ∀ y1 ∈ ps.zip us, (defScope st).names.lookup y1.1 = some .local ∨ ((defScope st).names.lookup y1.1 = some .cell ∧ ((cellsFrom (st1.heap.objs.size + 1) (defScope st).names []).lookup y1.1).isSome = true) := fun ⟨n1, v1⟩ hy1 => by
    rcases S.par n1 (List.of_mem_zip hy1).1 with q1 | q1
    · exact .inl q1
    · exact .inr ⟨q1, PySem.W.cellsFrom_some _ _ _ (.inl q1)⟩
  refine codeAny_call_function hr1.depth (KX1 _ _ lk) rfl S.co S.gen rfl (PySem.W.codeRec_of KX1 hcd) (hb1 _ _ _ _ ?_)
  refine wpAny_newFunctionEnv_cells S.kind hknd fun env1 he1 st2 x1 => ?_
  subst he1; refine ⟨lim1.keeps x1.toInCall.keep, codeAny_func ?_⟩
  obtain ⟨t, ht0, hq1⟩ := hbd cdv A out1 st1 H vs Q E (hr1.deeper _) hsp1
  have ht := ht0.nox
  have I1 : Inv (cxOf CX0 P w K mg base N qual (defScope st) f cdv A out1 st1 H E) [] (start N vs) H st2 := inv_start S hr1.hd en0 hl1 rv1 x1
  refine wpAny_mono (ht.run [] st2 (start N vs) H _ I1 hq1) (fun fl st3 hs1 => ?_) fun _ st3 hs1 => hs1
  have done1 : ∀ {σ1 : L2.St} {H1 : Hp} {v : V} {u : Value}, Inv (cxOf CX0 P w K mg base N qual (defScope st) f cdv A out1 st1 H E) [] σ1 H1 st3 → RelV v u → Q v H1 → CE out1 P w H st1 Q u st3 :=
    fun {σ1 H1 v u} J1 rv q1 => ⟨v, H1, J1.os, J1.bare, J1.base, J1.hok, rv, q1⟩
  cases fl with
  | ret u => obtain ⟨v, σ1, H1, J1, rv, q1⟩ := hs1; exact done1 J1 rv q1
  | next => obtain ⟨σ1, H1, J1, q1⟩ := hs1; exact done1 (v := V.non) (u := Value.none) J1 rfl q1
  | brk => obtain ⟨_, _, _, q1⟩ := hs1; exact False.elim q1
  | cont => obtain ⟨_, _, _, q1⟩ := hs1; exact False.elim q1
end
section
variable {X : Cx}
def rIterT (K : PySem.W.Frag) (n : Nat) : List V → Hp → VK → Prop := fun xs H Q => ∃ (l : Addr) (zs : List V), xs = [.ref l] ∧ SqT K H l zs ∧ ∀ it, H it = none → n ≤ it → Q (.ref it) (upd H it (ItT l it))
theorem call_iterT : CallR X (.builtin "iter") (rIterT X.K X.s_0.heap.objs.size) := by
  intro pins s σ H xs us Q I r h
  obtain ⟨l, zs, rfl, hq, q⟩ := h
  obtain ⟨u, rfl, ru⟩ := vals1 r
  cases ru
  obtain ⟨its, rv, p, hz⟩ := I.tuple hq
  refine call_iter_tup (show s.heap.IsTuple l its.toArray from p) ?_
  exact ⟨.ref s.heap.objs.size, _, I.laid (t' := s.toks) (fun b u e => Heap.get?_push_of_some _ e) (Nat.le_refl _) (itT_ok ⟨_, Heap.get?_push_size _ rfl, rfl, rfl⟩), rfl, q _ (I.hok.fresh (Nat.le_refl _)) I.sz⟩
/-- what an __iter__ promises that hands back iter(self.f), a tuple of zs -/
def spIt (K : PySem.W.Frag) (C : Addr) (f : Str) (n : Nat) : Sp := fun vs H Q _ => ∃ m dx fs l zs, vs = [.ref m] ∧ H m = some (.ins C dx fs) ∧ fs.lookup f = some (.ref l) ∧ SqT K H l zs ∧ ∀ it, H it = none → n ≤ it → Q (.ref it) (upd H it (ItT l it))
/-- a for over an own instance with such an __iter__ -/
def iOwn (K : PySem.W.Frag) (C : Addr) (f : Str) (te : TE) : TI := fun σ H R => te σ H fun x H1 => ∃ m dx fs l zs, x = .ref m ∧ H1 m = some (.ins C dx fs) ∧ fs.lookup f = some (.ref l) ∧ SqT K H1 l zs ∧ R (Itt K l) H1
theorem pi_own {tg e : Expr} {te : TE} {C g : Addr} {f : Str} {fd : FuncData} {ps : List Str} {k : Nat} (he : PE X e te) (hit : PySem.W.findIn X.K (.ref C) "__iter__" = some (some (.ref g))) (hif : PySem.W.isFn X.K (.ref g) = true)
    (F : FnN X.prog X.w X.K X.mg X.base k g fd ps (spIt X.K C f)) (b : Binds X.K fd ps []) (hr : Room k X.A) (hx : Passes CX0 X (fun _ _ _ => False)) : PI X tg e (iOwn X.K C f te) := by
  refine ⟨fun pins s σ H R I h => ?_⟩
  refine thn (he.run pins s σ H _ I h) fun v s1 ⟨x, H1, I1, r1, m, dx, fs, l, zs, ex, hm, hf, hz, q0⟩ => ?_
  subst ex
  cases r1
  obtain ⟨mA, J, _⟩ := ins_get I1.hok hm
  obtain ⟨od, J, _⟩ := J.look
  obtain ⟨m0, hF⟩ := I1.fr
  refine PySem.W.owit_iter hF I1.ok.mod.kin J hit hif ?_
  have hsp : spIt X.K C f s1.heap.objs.size [.ref m] H1 (fun v H2 => ∃ it, v = .ref it ∧ H1 it = none ∧ s1.heap.objs.size ≤ it ∧ H2 = upd H1 it (ItT l it)) (fun _ _ _ => False) :=
    ⟨m, dx, fs, l, zs, rfl, hm, hf, hz, fun it n1 n2 => ⟨it, rfl, n1, n2, rfl⟩⟩
  have hl := F.len _ _ _ _ _ hsp
  have r2 : Vals [V.ref m] [Value.ref m] := .cons rfl .nil
  refine wpAny_call (codeAny_mono (F.run X.A X.stack s1 H1 ⟨[.ref m], []⟩ [.ref m] [.ref m] _ _ hr I1.env0 (by
    have := b s1 [.ref m] I1.kIn (by simpa using hl)
    simpa using this) r2 hsp) fun r s' hq => ?_)
  cases r with
  | error e => exact hx pins σ H1 s1 e s' I1 hq
  | ok fl =>
    cases fl with
    | next => exact False.elim hq
    | brk => exact False.elim hq
    | cont => exact False.elim hq
    | ret u =>
      obtain ⟨v, H', I2, rv, it, ev, n1, hn1, eH⟩ := I1.after hq
      subst ev
      cases rv
      subst eH
      have e1 : upd H1 it (ItT l it) it = some (ItT l it) := upd_same
      have st : s'.heap.IsTupleIter it l 0 := (I2.hok it _ e1).1
      have hn : X.s_0.heap.objs.size ≤ it := Nat.le_trans I1.sz hn1
      unfold PySem.W.OwitIt
      refine wpAny_specialOf (name := Str.ofString "__next__") st.typeIs PySem.F.slot_tuple_iterator_next.lookup ?_
      refine ⟨it, [it], _, _, dropH (upd H1 it (ItT l it)) it, rfl, inv_drop I2 e1, turn_tuple l it, st, fun b hb => ?_, ?_⟩
      · have e : b = it := by simpa using hb
        rw [e]
        exact inv_fp I2 e1 hn
      · rw [dropH_upd n1]
        exact q0
end
end FS

set_option Elab.async false
set_option linter.all false
set_option maxRecDepth 100000
set_option maxHeartbeats 4000000
/-! list(reversed(a list)): a new list of what the turned one gives. -/
namespace FS
open PySem PySem.Spec PyProof.Rows L2 RT
/-- the i-th from the end -/
def TurnedBy (us : Array Value) (i : Nat) (v : Value) : Prop := us[us.size - 1 - i]? = some v
theorem list_of_turned {prog : Program} {w : World} {A : Around} {E : Value → Shared → Prop} {s : Shared} {t l : Addr} {us : Array Value} {Q : Value → Shared → Prop} (still : A.handled = none) (tIs : s.heap.IsRevIter t l ((us.size : Int) - 1)) (lIs : s.heap.IsList l us)
    (apart : l ≠ t) (fits : us.size ≤ sizeLine) (next : ∀ (g : Heap) (k : Nat) (vs : Array Value) (c : Nat), (∀ b o, b ≠ t → s.heap.get? b = some o → g.get? b = some o) → g.get? s.heap.objs.size = some ⟨.type "list", none, .seq vs c, #[]⟩ →
      ItemsOf (TurnedBy us) vs us.size → Q (.ref s.heap.objs.size) { s with heap := g, toks := k }) : wpAny (model prog w) A (call (.type "list") [.ref t]) Q E s := by
  have older : ∀ {b : Addr} {o : Obj}, s.heap.get? b = some o → b ≠ s.heap.objs.size := fun e => Nat.ne_of_lt (Heap.lt_size e)
  have t0 : t ≠ s.heap.objs.size := let ⟨_, e, _⟩ := tIs; older e
  have l0 : l ≠ s.heap.objs.size := let ⟨_, e, _⟩ := lIs; older e
  refine callType_codes (Q₁ := fun v r => v = .ref s.heap.objs.size ∧ r = { s with heap := s.heap.push ⟨.type "list", none, .seq #[] 0, #[]⟩ }) PySem.F.called_list (PySem.F.typeCall_list_1 _) PySem.F.entry_list_init (code_list_new _ ⟨rfl, rfl⟩) ?_
  rintro _ _ ⟨rfl, rfl⟩
  have laid : (s.heap.push ⟨.type "list", none, .seq #[] 0, #[]⟩).get? s.heap.objs.size = some ⟨.type "list", none, .seq #[] 0, #[]⟩ := Heap.get?_push_size _ rfl
  refine ⟨⟨_, laid, rfl⟩, PySem.F.args_list_init_2 _ _, ?_⟩
  -- the list is emptied, then it takes what the turned one gives
  show wpAny _ _ (Builtin.List.listItems (.ref s.heap.objs.size) >>= fun o => updateSeq s.heap.objs.size (fun _ => #[]) >>= fun _ => letGo o.toList.reverse >>= fun _ => Builtin.List.listExtendWith (.ref s.heap.objs.size) (.ref t) .none) _ _ _
  unfold Builtin.List.listItems
  refine wpAny_bind (wpAny_bind (wpAny_seqItems laid rfl (wpAny_pure ?_)))
  refine wpAny_bind (wpAny_updateSeq laid rfl ?_)
  refine wpAny_bind (wpAny_letGo ?_)
  have kept : ∀ b o, s.heap.get? b = some o → ((s.heap.push ⟨.type "list", none, .seq #[] 0, #[]⟩).update s.heap.objs.size (Obj.mapSeq fun _ => #[])).get? b = some o :=
    fun b o e => (Heap.get?_update_other _ _ (Ne.symm (older e))).trans (Heap.get?_push_of_some _ e)
  have empty := Heap.get?_update_self (Obj.mapSeq fun _ => (#[] : Array Value)) laid rfl
  generalize (s.heap.push ⟨.type "list", none, .seq #[] 0, #[]⟩).update s.heap.objs.size (Obj.mapSeq fun _ => #[]) = h at kept empty ⊢
  have tAt : h.IsRevIter t l ((us.size : Int) - 1) := tIs.at (kept t)
  have lAt : h.IsList l us := let ⟨o, e, r⟩ := lIs; ⟨o, kept l o e, r⟩
  have kind : ({ s with heap := h } : Shared).TypeIs (.ref t) "list_reverseiterator" := Heap.IsRevIter.typeIs (s := { s with heap := h }) tAt
  have other : Builtin.List.listSameRef (.ref s.heap.objs.size) (.ref t) = false := by
    simp [Builtin.List.listSameRef, Ne.symm t0]
  unfold Builtin.List.listExtendWith
  refine wpAny_bind (wpAny_typeOf kind ?_)
  rw [if_neg (by rw [other]; decide)]
  refine wpAny_bind (wpAny_pyIter_revIter (s := { s with heap := h }) tAt (wpAny_bind (wpAny_holding ?_)))
  unfold Builtin.List.listLengthHint
  refine wpAny_bind (wpAny_specialOf kind nolen_lri (wpAny_bind (m := specialOf (Value.ref t) (Str.ofString "__length_hint__")) (wpAny_specialOf kind hint_lri ?_)))
  have cutId : splitId "list_reverseiterator.__length_hint__" = some ("list_reverseiterator", "__length_hint__") := by decide +kernel
  generalize back : ("list_reverseiterator.__length_hint__" : String) = id0 at cutId ⊢
  wp_delta
  rw [cutId]
  subst back
  refine wpAny_bind (wpAny_isInstance (b := true) kind (by rw [isSubtype_type]; kernel_rfl) ?_)
  refine wpAny_pure ?_
  rw [if_neg (by decide)]
  have free : s.heap.objs.size ∉ [t, l] := by simp [Ne.symm t0, Ne.symm l0]
  refine wpAny_pure ⟨plainId_quiet F.plain_extend_loop _, codeAny_extend_loopS (Walks.listRev (A := A.in1.in1) still t l apart us).toS fits _ free _ us.size 0 _ _ _ rfl (Nat.zero_le _) ⟨Nat.zero_le _, by rw [show ((us.size : Nat) : Int) - 1 - ((0 : Nat) : Int) = (us.size : Int) - 1 by omega]; exact tAt, lAt⟩ empty (ItemsOf.nil _) ?_⟩
  intro r vs c moved there items
  rw [Moved.eq_with moved]
  exact ⟨rfl, next r.heap r.toks vs c (fun b o nb e => moved.heap b o (by simp [older e, nb]) (kept b o e)) there items⟩
section
variable {X : Cx}
/-- list(reversed(x)), x a list: a new list -/
def tLstRev (K : PySem.W.Frag) (te : TE) : TE := fun σ H Q => te σ H fun v H1 => ∃ (a : Addr) (xs : List V), v = .ref a ∧ SqL K H1 a xs ∧ ∀ q H2, Same H1 H2 → H1 q = none → H2 q = some (.lst xs.reverse) → Q (.ref q) H2
theorem pe_lstRevK {K : PySem.W.Frag} {e : Expr} {te : TE} {p p2 pos pos2 : Pos} (hc : X.calm = true) (hg : Gl X "list") (hm : X.mg "list" = none) (hg2 : Gl X "reversed") (hm2 : X.mg "reversed" = none) (he : PE X e te) (hK : X.K = K := by rfl)
    (one : starEach [e] X.env = (false, eval e X.env) :: starEach [] X.env := by rfl)
    (two : starEach [.Call (.Name "reversed" p2) [e] [] pos2] X.env = (false, eval (.Call (.Name "reversed" p2) [e] [] pos2) X.env) :: starEach [] X.env := by rfl) :
    PE X (.Call (.Name "list" p) [.Call (.Name "reversed" p2) [e] [] pos2] [] pos) (tLstRev K te) := by
  subst hK
  refine ⟨fun pins s σ H Q I h => Call_ (ld_blt I hg hm (by decide +kernel : bootBuiltins "list" = some (.type "list")) (PyProof.Rows.callWith_type1 (args_cons (Call_ (ld_blt I hg2 hm2 PyProof.Rows.boot_reversed (PyProof.Rows.callWith_type1 (args_cons (thn (he.run pins s σ H _ I h) ?_) one) one rfl))) two) two rfl))⟩
  rintro u z ⟨v, H1, J, hu, a, xs, rfl, hx, q⟩
  obtain rfl : u = Value.ref a := hu
  obtain ⟨its, vals, pl, small⟩ := J.list hx
  refine args_nil (call_reversed_list pl.isList (args_nil ?_))
  generalize hn : its.toArray.size = n
  have len : n = xs.length := by rw [← hn, List.size_toArray, vals.length]
  have push : ∀ b o, z.heap.get? b = some o → (z.heap.push (revObj a ((n : Int) - 1))).get? b = some o := fun _ _ => Heap.get?_push_of_some _
  have J2 : Inv X pins σ H1 { z with heap := z.heap.push (revObj a ((n : Int) - 1)) } := J.kept (t' := z.toks) push
  obtain ⟨w0, w1, _, w3, w4, w5⟩ := J.fpOk (H' := H1) (b := z.heap.objs.size) (Nat.le_refl _) (J.hok.fresh (Nat.le_refl _))
  have src := pl.isList
  have apart : a ≠ z.heap.objs.size := let ⟨_, ho, _⟩ := src; Nat.ne_of_lt (Heap.lt_size ho)
  refine list_of_turned (s := { z with heap := z.heap.push (revObj a ((n : Int) - 1)) }) (J.ok.hd hc) (by rw [hn]; exact ⟨_, Heap.get?_push_size _ rfl, rfl, rfl⟩) (src.push _) apart (by rw [hn, len]; exact small) fun g k vs c keep there items => ?_
  -- the new list's address stands free while the turned one goes
  generalize hd : (z.heap.push (revObj a ((n : Int) - 1))).objs.size = d at there
  have dn : H1 d = none := by rw [← hd]; exact J2.hok.fresh (Nat.le_refl _)
  obtain ⟨G, g1, g2⟩ := restrict g fun b => decide (b ≠ d)
  have J3 : Inv X pins σ H1 { z with heap := G, toks := k } := J2.turned (t' := k) (fun b o nb e => (g1 b (decide_eq_true (by rw [← hd]; exact Nat.ne_of_lt (Heap.lt_size e)))).trans (keep b o nb e)) w0 w1 w3 w4 w5
  have back : ∀ b o, G.get? b = some o → g.get? b = some o := fun b o e => by
    by_cases nb : b = d
    · rw [g2 b (decide_eq_false fun y => y nb)] at e
      cases e
    · exact (g1 b (decide_eq_true nb)).symm.trans e
  refine ⟨.ref d, upd H1 d (.lst xs.reverse), J3.laidN (t' := k) back (g2 _ (decide_eq_false fun y => y rfl)) dn ?_, rfl, q _ _ (same_new dn) dn upd_same⟩
  exact ⟨by rw [List.length_reverse]; exact small, vs.toList, c, vals_rev vals items, by rw [Array.toArray_toList]; exact there⟩
end
end FS

set_option Elab.async false
set_option linter.all false
set_option maxRecDepth 100000
set_option maxHeartbeats 4000000
/-! Comprehensions whose values are new lists or tuples. -/
namespace FS
open PySem PySem.Spec PyProof.Rows L2
/-- what an iterator gives, as long as what stood stands -/
def Runs (J : It) (xs : List V) (H1 : Hp) : Prop := (∀ i H, i < xs.length → Same H1 H → J.go i H) ∧ (∀ H, Same H1 H → J.stop xs.length H) ∧ ∀ i x H H', Same H1 H → J.yld i H x H' → H' = H ∧ xs[i]? = some x
theorem runs_list {K : PySem.W.Frag} {a : Addr} {xs : List V} {H1 : Hp} (h : SqL K H1 a xs) : Runs (Itl K a) xs H1 :=
  ⟨fun i H hi s => ⟨xs, _, s.seq h, List.getElem?_eq_getElem hi⟩, fun H s => ⟨xs, s.seq h, Nat.le_refl _⟩, fun i x H H' s y => ⟨y.1, y.2 xs (s.seq h)⟩⟩
theorem runs_tup {K : PySem.W.Frag} {a : Addr} {xs : List V} {H1 : Hp} (h : SqT K H1 a xs) : Runs (Itt K a) xs H1 :=
  ⟨fun i H hi s => ⟨xs, _, same_tup s h, List.getElem?_eq_getElem hi⟩, fun H s => ⟨xs, same_tup s h, Nat.le_refl _⟩, fun i x H H' s y => ⟨y.1, y.2 xs (same_tup s h)⟩⟩
theorem runs_vals {d : Addr} {o : Obj} {kvs : List (Key × V)} {H1 : Hp} (h : H1 d = some (.frz o (.dK kvs))) : Runs (Itd d o kvs) (kvs.map (·.2)) H1 :=
  ⟨fun i H hi s => ⟨s _ _ h, by rw [List.length_map] at hi; exact hi⟩, fun H s => ⟨s _ _ h, by rw [List.length_map]; exact Nat.le_refl _⟩, fun i x H H' s y => ⟨y.1, by
    obtain ⟨k, hk⟩ := y.2
    rw [List.getElem?_map, hk]
    rfl⟩⟩
/-- y is a cell with o -/
def Made {α : Type} (C : α → HO) (H : Hp) (o : α) (y : V) : Prop := ∃ r, y = .ref r ∧ H r = some (C o)
theorem Made.mono {α : Type} {C : α → HO} {H H' : Hp} {o : α} {y : V} (h : Made C H o y) (s : Same H H') : Made C H' o y := by
  obtain ⟨r, e, h⟩ := h
  exact ⟨r, e, s _ _ h⟩
theorem mades {α : Type} {C : α → HO} {H H' : Hp} {os : List α} {ys : List V} (h : Paired (Made C H) os ys) (s : Same H H') : Paired (Made C H') os ys := Paired.mono (fun _ _ m => m.mono s) h
theorem made_at {α : Type} {C : α → HO} {H : Hp} : ∀ {os : List α} {ys : List V}, Paired (Made C H) os ys → ∀ {i : Nat} {y : V}, ys[i]? = some y → ∃ o, os[i]? = some o ∧ Made C H o y
  | _, _, .nil, i, y, h => by cases h
  | _, _, .cons a t, 0, y, h => ⟨_, rfl, by cases h; exact a⟩
  | _, _, .cons a t, i + 1, y, h => made_at t h
section
variable {X : Cx} {e : Expr} {K : PySem.W.Frag}
theorem cn_at {α : Type} {C : α → HO} {J : It} {te : TE} {j : Nat} {σ : L2.St} {H1 : Hp} {Qd : Hp → Prop} {D : Addr} (hD : H1 D = none) (xs : List V) (os : List α) (hr : Runs J xs H1) (hz : xs.length ≤ 1000) (hj : j < σ.length) (lo : os.length = xs.length)
    (hv : ∀ (i : Nat) (x : V) (o : α) (τ : L2.St) (H2 : Hp) (Q' : VK), xs[i]? = some x → os[i]? = some o → Same H1 H2 → τ[j]? = some (some x) → (∀ H3 r, Same H2 H3 → H2 r = none → H3 r = some (C o) → Q' (.ref r) H3) → te τ H2 Q')
    (q : ∀ H' ys, Same H1 H' → H' D = some (.lst ys) → Paired (Made C H') os ys → Qd H') :
    ∃ W : Nat → Nat → Hp → Prop, (∃ m, W 0 m (upd H1 D (.lst []))) ∧ ∀ i m H, W i m H →
      (J.stop i H ∧ Qd H) ∨ (J.go i H ∧ ∃ Nx : Hp → Prop, (∀ H', Nx H' → ∃ m', m' < m ∧ W (i + 1) m' H') ∧ ∀ x H', J.yld i H x H' → gName j x (wipe σ [j]) H' fun σ2 H2 => wipe σ2 [j] = wipe σ [j] ∧ tYes σ2 H2 fun b H3 =>
        if b = true then te σ2 H3 fun y H4 => ∃ acc, H4 D = some (.lst acc) ∧ acc.length < sizeLine ∧ Nx (upd H4 D (.lst (acc ++ [y]))) else Nx H3) := by
  refine ⟨fun i m H => m = xs.length - i ∧ i ≤ xs.length ∧ Same H1 H ∧ ∃ ys, H D = some (.lst ys) ∧ Paired (fun o y => ∃ r, y = .ref r ∧ r ≠ D ∧ H r = some (C o)) (os.take i) ys,
    ⟨xs.length, by simp, Nat.zero_le _, same_new hD, [], upd_same, .nil⟩, ?_⟩
  rintro i m H ⟨rfl, hi, s, ys, eD, py⟩
  by_cases hlt : i < xs.length
  · have ho : os[i]? = some (os[i]'(by omega)) := List.getElem?_eq_getElem (by omega)
    refine .inr ⟨hr.1 i H hlt s, fun H' => i + 1 ≤ xs.length ∧ Same H1 H' ∧ ∃ ys, H' D = some (.lst ys) ∧ Paired (fun o y => ∃ r, y = .ref r ∧ r ≠ D ∧ H' r = some (C o)) (os.take (i + 1)) ys, fun H' p' => ⟨xs.length - (i + 1), by omega, rfl, p'.1, p'.2⟩, fun x H' y => ?_⟩
    obtain ⟨rfl, hx⟩ := hr.2.2 i x H H' s y
    refine ⟨by simp [wipe], hv i x _ _ _ _ hx ho s (by simp [wipe, hj]) fun H3 r s3 nr er => ⟨ys, s3 _ _ eD, ?_, hlt, ?_, ys ++ [.ref r], upd_same, ?_⟩⟩
    · rw [← py.length, List.length_take]
      exact small1000 (by omega)
    · intro b o eb
      rw [upd_ne (ne_of_none eb hD)]
      exact s3 _ _ (s _ _ eb)
    · have nrD : r ≠ D := fun z => by rw [z, eD] at nr; cases nr
      rw [List.take_add_one, ho]
      refine Paired.snoc (Paired.mono (fun o y m => ?_) py) ⟨r, rfl, nrD, by rw [upd_ne nrD]; exact er⟩
      obtain ⟨r', e', n', h'⟩ := m
      exact ⟨r', e', n', by rw [upd_ne n']; exact s3 _ _ h'⟩
  · have e : i = xs.length := by omega
    subst e
    refine .inl ⟨hr.2.1 H s, q H ys s eD ?_⟩
    rw [← lo, List.take_length] at py
    exact Paired.mono (fun o y ⟨r, e', _, h'⟩ => ⟨r, e', h'⟩) py
theorem cn_core {α : Type} {C : α → HO} {J : It} {te : TE} {j : Nat} {σ : L2.St} {H1 : Hp} {Q : VK} (xs : List V) (os : List α) (hr : Runs J xs H1) (hz : xs.length ≤ 1000) (hj : j < σ.length) (lo : os.length = xs.length)
    (hv : ∀ (i : Nat) (x : V) (o : α) (τ : L2.St) (H2 : Hp) (Q' : VK), xs[i]? = some x → os[i]? = some o → Same H1 H2 → τ[j]? = some (some x) → (∀ H3 r, Same H2 H3 → H2 r = none → H3 r = some (C o) → Q' (.ref r) H3) → te τ H2 Q')
    (q : ∀ D H' ys, Same H1 H' → H1 D = none → H' D = some (.lst ys) → Paired (Made C H') os ys → Q (.ref D) H') :
    ∀ D, H1 D = none → ∃ W : Nat → Nat → Hp → Prop, (∃ m, W 0 m (upd H1 D (.lst []))) ∧ ∀ i m H, W i m H →
      (J.stop i H ∧ Q (.ref D) H) ∨ (J.go i H ∧ ∃ Nx : Hp → Prop, (∀ H', Nx H' → ∃ m', m' < m ∧ W (i + 1) m' H') ∧ ∀ x H', J.yld i H x H' → gName j x (wipe σ [j]) H' fun σ2 H2 => wipe σ2 [j] = wipe σ [j] ∧ tYes σ2 H2 fun b H3 =>
        if b = true then te σ2 H3 fun y H4 => ∃ acc, H4 D = some (.lst acc) ∧ acc.length < sizeLine ∧ Nx (upd H4 D (.lst (acc ++ [y]))) else Nx H3) := fun D hD => cn_at hD xs os hr hz hj lo hv fun H' ys s e p => q D H' ys s hD e p
end
end FS

set_option Elab.async false
set_option linter.all false
set_option maxRecDepth 100000
set_option maxHeartbeats 4000000
/-! Slices, and tuples put together. -/
namespace FS
open PySem PySem.Spec PyProof.Rows L2
theorem cut_to (xs : List V) (k : Nat) : cutV xs none (some (k : Int)) = xs.take k := by
  unfold cutV
  rw [HT.sIx_none, HT.sIx_nat, List.drop_zero, Nat.sub_zero]
  by_cases h : k ≤ xs.length
  · rw [Nat.min_eq_left h]
  · rw [Nat.min_eq_right (by omega), List.take_length, List.take_of_length_le (by omega)]
theorem cut_from (xs : List V) (k : Nat) : cutV xs (some (k : Int)) none = xs.drop k := by
  unfold cutV
  rw [HT.sIx_none, HT.sIx_nat]
  by_cases h : k ≤ xs.length
  · rw [Nat.min_eq_left h]
    exact List.take_of_length_le (by rw [List.length_drop]; exact Nat.le_refl _)
  · rw [Nat.min_eq_right (by omega), List.drop_length, List.drop_of_length_le (by omega)]
    rw [List.take_nil]
theorem pr_take {α β : Type} {F : α → β → Prop} : ∀ {as : List α} {bs : List β} (k : Nat), Paired F as bs → Paired F (as.take k) (bs.take k)
  | _, _, 0, _ => by rw [List.take_zero, List.take_zero]; exact .nil
  | _, _, k + 1, .nil => .nil
  | _, _, k + 1, .cons a t => .cons a (pr_take k t)
theorem pr_drop {α β : Type} {F : α → β → Prop} : ∀ {as : List α} {bs : List β} (k : Nat), Paired F as bs → Paired F (as.drop k) (bs.drop k)
  | _, _, 0, h => h
  | _, _, k + 1, .nil => .nil
  | _, _, k + 1, .cons a t => pr_drop k t
theorem pr_app {α β : Type} {F : α → β → Prop} : ∀ {as : List α} {bs : List β} {cs : List α} {ds : List β}, Paired F as bs → Paired F cs ds → Paired F (as ++ cs) (bs ++ ds)
  | _, _, _, _, .nil, h => h
  | _, _, _, _, .cons a t, h => .cons a (pr_app t h)
section
variable {X : Cx}
def rCatB : R2 := fun x y H Q => ∃ a b xs ys, x = .ref a ∧ y = .ref b ∧ H a = some (.tup xs) ∧ H b = some (.tup ys) ∧ xs.length + ys.length ≤ 1000 ∧ ∀ p H', Same H H' → H' p = some (.tup (xs ++ ys)) → Q (.ref p) H'
theorem op_catB : OpR X (binaryOp .Add) rCatB := fun pins s σ H x y v u Q I rx ry ⟨a, b, xs, ys, e1, e2, h1, h2, hz, q⟩ =>
  op_catA pins s σ H x y v u Q I rx ry ⟨a, b, xs, ys, e1, e2, .inl (.inl h1), .inl (.inl h2), Nat.le_of_lt (small1000 hz), fun e => q b H (Same.refl _) (by rw [e]; exact h2), fun _ e => q a H (Same.refl _) (by rw [e, List.append_nil]; exact h1),
    fun _ _ p np => q p _ (same_new np) upd_same⟩
def rSlB : V → Option Int → Option Int → Hp → VK → Prop := fun x lo hi H Q => ∃ a xs, x = .ref a ∧ H a = some (.tup xs) ∧ ∀ p H', Same H H' → H' p = some (.tup (cutV xs lo hi)) → Q (.ref p) H'
theorem sl_tupB : SlR X rSlB := fun pins s σ H x v vl vu lo hi sl Q I rx hs pl pu ⟨a, xs, e, hx, q⟩ =>
  sl_tupA pins s σ H x v vl vu lo hi sl Q I rx hs pl pu ⟨a, xs, e, .inl (.inl hx), fun ⟨h1, h2⟩ => q a H (Same.refl _) (by
    unfold cutV
    rw [h1, h2, List.drop_zero, Nat.sub_zero, List.take_length]
    exact hx), fun _ p np => q p _ (same_new np) upd_same⟩
end
end FS

set_option Elab.async false
set_option linter.all false
set_option maxRecDepth 100000
set_option maxHeartbeats 4000000
/-! Programs: tables; the mirror of modules that are bound to one another; what these look like in memory. -/
namespace PG
open PySem PySem.Spec PyProof.Rows L2 L2.FK FS TX
/-! ### tables -/
section
variable {κ β : Type} [DecidableEq κ]
def look (l : List (κ × β)) (k : κ) : Option β := match l with
  | [] => none
  | p :: r => if p.1 = k then some p.2 else look r k
def put (l : List (κ × β)) (k : κ) (v : β) : List (κ × β) := match l with
  | [] => [(k, v)]
  | p :: r => if p.1 = k then (p.1, v) :: r else p :: put r k v
def keys (l : List (κ × β)) : List κ := l.map (·.1)
theorem look_put (l : List (κ × β)) (k j : κ) (v : β) : look (put l k v) j = if j = k then some v else look l j := by
  induction l with
  | nil =>
    show (if k = j then some v else none) = _
    by_cases e : k = j
    · rw [if_pos e, if_pos e.symm]
    · rw [if_neg e, if_neg (fun q => e q.symm)]
      rfl
  | cons p r ih =>
    unfold put
    by_cases h : p.1 = k
    · rw [if_pos h]
      show (if p.1 = j then some v else look r j) = if j = k then some v else (if p.1 = j then some p.2 else look r j)
      by_cases e : j = k
      · rw [if_pos e, if_pos (h.trans e.symm)]
      · rw [if_neg e, if_neg (fun q => e (q.symm.trans h)), if_neg (fun q => e (q.symm.trans h))]
    · rw [if_neg h]
      show (if p.1 = j then some p.2 else look (put r k v) j) = if j = k then some v else (if p.1 = j then some p.2 else look r j)
      rw [ih]
      by_cases e : j = k
      · rw [if_pos e, if_neg (fun q => h (q.trans e))]
        rw [if_pos e]
      · rw [if_neg e, if_neg e]
end
/-! ### a dict that holds a table -/
def DR {κ κ' β : Type} (ke : κ → κ') (R : β → V → Prop) : List (κ × β) → List (κ' × V) → Prop := Paired fun p kv => kv.1 = ke p.1 ∧ R p.2 kv.2
section
variable {κ κ' β : Type} [DecidableEq κ] [DecidableEq κ'] {ke : κ → κ'} {R R' : β → V → Prop}
theorem DR.mono (f : ∀ b v, R b v → R' b v) {l : List (κ × β)} {kvs : List (κ' × V)} (h : DR ke R l kvs) : DR ke R' l kvs := by
  unfold DR at h ⊢
  induction h with
  | nil => exact .nil
  | cons h _ ih => exact .cons ⟨h.1, f _ _ h.2⟩ ih
theorem DR.len {l : List (κ × β)} {kvs : List (κ' × V)} (h : DR ke R l kvs) : l.length = kvs.length := Paired.length h
theorem DR.get (inj : ∀ a b, ke a = ke b → a = b) {l : List (κ × β)} {kvs : List (κ' × V)} (h : DR ke R l kvs) {k : κ} {b : β} (e : look l k = .some b) : ∃ v, valV kvs (ke k) = .some v ∧ R b v := by
  unfold DR at h
  induction h with
  | nil => cases e
  | @cons p kv l kvs h t ih =>
    unfold look at e
    by_cases q : p.1 = k
    · rw [if_pos q] at e
      cases e
      exact ⟨kv.2, valV_pos (by rw [h.1, q]), h.2⟩
    · rw [if_neg q] at e
      rw [valV_neg (fun z => q (inj _ _ (h.1.symm.trans z)))]
      exact ih e
theorem DR.non (inj : ∀ a b, ke a = ke b → a = b) {l : List (κ × β)} {kvs : List (κ' × V)} (h : DR ke R l kvs) {k : κ} (e : look l k = .none) : valV kvs (ke k) = .none := by
  unfold DR at h
  induction h with
  | nil => rfl
  | @cons p kv l kvs h t ih =>
    unfold look at e
    by_cases q : p.1 = k
    · rw [if_pos q] at e
      cases e
    · rw [if_neg q] at e
      rw [valV_neg (fun z => q (inj _ _ (h.1.symm.trans z)))]
      exact ih e
theorem DR.isSome (inj : ∀ a b, ke a = ke b → a = b) {l : List (κ × β)} {kvs : List (κ' × V)} (h : DR ke R l kvs) (k : κ) : (valV kvs (ke k)).isSome = (look l k).isSome := by
  cases e : look l k with
  | none =>
    rw [h.non inj e]
    rfl
  | some b =>
    obtain ⟨v, e1, _⟩ := h.get inj e
    rw [e1]
    rfl
/-- no key twice -/
theorem putK_cons_pos {p : κ' × V} {r : List (κ' × V)} {k : κ'} {v : V} (h : p.1 = k) (n : ∀ q ∈ r, ¬ q.1 = k) : putK (p :: r) k v = (p.1, v) :: r := by
  unfold putK
  rw [if_pos (by simp [h]), List.map_cons, if_pos h]
  congr 1
  have : r.map (fun kv => if kv.1 = k then (kv.1, v) else kv) = r.map id := List.map_congr_left fun q hq => by rw [if_neg (n q hq)]; rfl
  rw [this, List.map_id]
theorem putK_cons_neg {p : κ' × V} {r : List (κ' × V)} {k : κ'} {v : V} (h : ¬ p.1 = k) : putK (p :: r) k v = p :: putK r k v := by
  unfold putK
  rw [List.any_cons, show decide (p.1 = k) = false from decide_eq_false h, Bool.false_or, List.map_cons, if_neg h]
  split <;> rfl
theorem DR.put (inj : ∀ a b, ke a = ke b → a = b) {l : List (κ × β)} {kvs : List (κ' × V)} (h : DR ke R l kvs) (nd : (keys l).Nodup) {k : κ} {b : β} {v : V} (r : R b v) : DR ke R (put l k b) (putK kvs (ke k) v) := by
  unfold DR at h
  induction h with
  | nil => exact .cons ⟨rfl, r⟩ .nil
  | @cons p kv l kvs h t ih =>
    have nd' : p.1 ∉ keys l ∧ (keys l).Nodup := List.nodup_cons.mp nd
    unfold PG.put
    by_cases q : p.1 = k
    · rw [if_pos q, putK_cons_pos (by rw [h.1, q])]
      · exact .cons ⟨h.1, r⟩ t
      · intro x hx ex
        apply nd'.1
        obtain ⟨i, hi⟩ := List.getElem?_of_mem hx
        have : ∀ {l : List (κ × β)} {kvs : List (κ' × V)}, Paired (fun p kv => kv.1 = ke p.1 ∧ R p.2 kv.2) l kvs → x ∈ kvs → ∃ y ∈ l, x.1 = ke y.1 := by
          intro l kvs h
          induction h with
          | nil => intro hx; cases hx
          | cons h t ih =>
            intro hx
            rcases List.mem_cons.mp hx with e | hx
            · subst e; exact ⟨_, List.mem_cons_self .., h.1⟩
            · obtain ⟨y, h1, h2⟩ := ih hx
              exact ⟨y, List.mem_cons_of_mem _ h1, h2⟩
        obtain ⟨y, hy, ey⟩ := this t hx
        rw [q, inj k y.1 (ex.symm.trans ey)]
        exact List.mem_map_of_mem hy
    · rw [if_neg q, putK_cons_neg (fun z => q (inj _ _ (h.1.symm.trans z)))]
      exact .cons h (ih nd'.2)
theorem put_mem {l : List (κ × β)} {k : κ} {v : β} {x : κ} : x ∈ keys (PG.put l k v) ↔ x ∈ keys l ∨ x = k := by
  induction l with
  | nil => simp [PG.put, keys]
  | cons p r ih =>
    unfold PG.put
    by_cases q : p.1 = k
    · rw [if_pos q]
      show x ∈ p.1 :: keys r ↔ x ∈ p.1 :: keys r ∨ x = k
      exact ⟨.inl, fun h => h.elim id fun h => by rw [h, ← q]; exact List.mem_cons_self ..⟩
    · rw [if_neg q]
      show x ∈ p.1 :: keys (PG.put r k v) ↔ x ∈ p.1 :: keys r ∨ x = k
      rw [List.mem_cons, List.mem_cons, ih, or_assoc]
theorem put_nodup {l : List (κ × β)} {k : κ} {v : β} (nd : (keys l).Nodup) : (keys (PG.put l k v)).Nodup := by
  induction l with
  | nil => simp [PG.put, keys]
  | cons p r ih =>
    have nd' : p.1 ∉ keys r ∧ (keys r).Nodup := List.nodup_cons.mp nd
    unfold PG.put
    by_cases q : p.1 = k
    · rw [if_pos q]
      exact nd
    · rw [if_neg q]
      show (p.1 :: keys (PG.put r k v)).Nodup
      refine List.nodup_cons.mpr ⟨fun m => ?_, ih nd'.2⟩
      rcases put_mem.mp m with m | m
      · exact nd'.1 m
      · exact q m
theorem put_len {l : List (κ × β)} {k : κ} {v : β} : (PG.put l k v).length ≤ l.length + 1 := by
  induction l with
  | nil => exact Nat.le_refl _
  | cons p r ih =>
    unfold PG.put
    split
    · exact Nat.le_succ _
    · rw [List.length_cons, List.length_cons]
      omega
end
/-! ### the mirror -/
abbrev MS := List (Str × ST)
structure Sc where
  al : List ((Str × Str) × Str)
  ex : List (Str × List Str)
  pc : List (Str × MP)
def dot : Str := "."
def full (m z : Str) : Str := m ++ dot ++ z
def enterAl (m : Str) (l : List ((Str × Str) × Str)) (p : Str × Str) : List ((Str × Str) × Str) := put l (m, p.1) p.2
def enterEx (m : Str) (l : List (Str × List Str)) (e : Str) : List (Str × List Str) := put l e ((look l e).getD [] ++ [m])
def enterPc (m : Str) (l : List (Str × MP)) (p : MP) : List (Str × MP) := put l (full m p.name) p
def enter (s : Sc) (m : Str) (st : ST) : Sc := ⟨st.al.foldl (enterAl m) s.al, st.ex.foldl (enterEx m) s.ex, st.ps.foldl (enterPc m) s.pc⟩
def sc0 : Sc := ⟨[], [], []⟩
def scOf (ms : MS) : Sc := ms.foldl (fun s m => enter s m.1 m.2) sc0
/-- what a module has by name -/
def hasN (st : ST) (z : Str) : Bool := (st.ps.map (·.name) ++ st.al.map (·.1)).contains z
def has (ms : MS) (m z : Str) : Bool := match look ms m with
  | some st => hasN st z
  | none => false
def exps (s : Sc) (z : Str) : List Str := (look s.ex z).getD []
def homeOf (ms : MS) (s : Sc) (m z : Str) : Option Str := if has ms m z then some m else (exps s z).find? fun o => has ms o z
/-- what a name means: by so many steps -/
def meanGo (ms : MS) (s : Sc) : Nat → List (Str × Str) → Str → Str → Option Str
  | 0, _, _, _ => none
  | n + 1, seen, m, z => if seen.contains (m, z) then none else match homeOf ms s m z with
    | none => none
    | some h => match look s.al (h, z) with
      | none => some (full h z)
      | some o => meanGo ms s n (seen ++ [(m, z)]) h o
def meaning (ms : MS) (s : Sc) (m z : Str) : Option Str := meanGo ms s (s.al.length + 2) [] m z
/-! ### in memory -/
theorem kS_inj (a b : Str) (h : (Sum.inr a : Key) = Sum.inr b) : a = b := Sum.inr.inj h
def kS (z : Str) : Key := Sum.inr z
def kT (p : Str × Str) : List Key := [Sum.inr p.1, Sum.inr p.2]
theorem kS_in (a b : Str) (h : kS a = kS b) : a = b := Sum.inr.inj h
theorem kT_in (a b : Str × Str) (h : kT a = kT b) : a = b := by
  unfold kT at h
  have h1 := (List.cons.inj h).1
  have h2 := (List.cons.inj (List.cons.inj h).2).1
  exact Prod.ext (Sum.inr.inj h1) (Sum.inr.inj h2)
/-- what stood stands; a dict may be locked -/
structure Ke (H H' : Hp) : Prop where
  tup : ∀ q xs, H q = some (.tup xs) → H' q = some (.tup xs)
  ins : ∀ q C dx fs, H q = some (.ins C dx fs) → H' q = some (.ins C dx fs)
  lst : ∀ q xs, H q = some (.lst xs) → H' q = some (.lst xs)
  dk : ∀ q kvs, Rd H q (.dK kvs) → Rd H' q (.dK kvs)
  dt : ∀ q kvs, Rd H q (.dT kvs) → Rd H' q (.dT kvs)
theorem Ke.of {H H' : Hp} (s : Same H H') : Ke H H' :=
  ⟨fun q xs e => s _ _ e, fun q C dx fs e => s _ _ e, fun q xs e => s _ _ e, fun q kvs e => e.elim (fun e => .inl (s _ _ e)) fun ⟨o, e⟩ => .inr ⟨o, s _ _ e⟩, fun q kvs e => e.elim (fun e => .inl (s _ _ e)) fun ⟨o, e⟩ => .inr ⟨o, s _ _ e⟩⟩
theorem Ke.trans {H H1 H2 : Hp} (a : Ke H H1) (b : Ke H1 H2) : Ke H H2 :=
  ⟨fun q xs e => b.tup _ _ (a.tup _ _ e), fun q C dx fs e => b.ins _ _ _ _ (a.ins _ _ _ _ e), fun q xs e => b.lst _ _ (a.lst _ _ e), fun q kvs e => b.dk _ _ (a.dk _ _ e), fun q kvs e => b.dt _ _ (a.dt _ _ e)⟩
theorem Ke.fix {CP : Addr} {H H' : Hp} (k : Ke H H') : Fix CP H H' := ⟨fun q xs e => k.tup _ _ e, fun q dx fs e => k.ins _ _ _ _ e⟩
/-- a dict is locked -/
theorem Ke.lock {H : Hp} {d : Addr} {kvs : List (Key × V)} {od : Obj} (e : H d = some (.dK kvs)) : Ke H (upd H d (.frz od (.dK kvs))) := by
  have ne : ∀ {q : Addr} {o : HO}, H q = some o → o ≠ .dK kvs → q ≠ d := fun {q o} h n z => n (by rw [z, e] at h; exact (Option.some.inj h).symm)
  refine ⟨fun q xs h => ?_, fun q C dx fs h => ?_, fun q xs h => ?_, fun q ks h => ?_, fun q ks h => ?_⟩
  · rw [upd_ne (ne h (fun z => nomatch z))]; exact h
  · rw [upd_ne (ne h (fun z => nomatch z))]; exact h
  · rw [upd_ne (ne h (fun z => nomatch z))]; exact h
  · by_cases hq : q = d
    · subst hq
      rcases h with h | ⟨o, h⟩
      · rw [e] at h
        cases h
        exact .inr ⟨od, upd_same⟩
      · rw [e] at h
        cases h
    · rcases h with h | ⟨o, h⟩
      · exact .inl (by rw [upd_ne hq]; exact h)
      · exact .inr ⟨o, by rw [upd_ne hq]; exact h⟩
  · rcases h with h | ⟨o, h⟩
    · exact .inl (by rw [upd_ne (ne h (fun z => nomatch z))]; exact h)
    · exact .inr ⟨o, by rw [upd_ne (ne h (fun z => nomatch z))]; exact h⟩
/-- .. and what came behind it, unlocked again -/
theorem unlock {H H' : Hp} {d : Addr} {u : HO} {od : Obj} (e : H d = some u) (s : Same (upd H d (.frz od u)) H') : Same H (upd H' d u) := fun b o h => by
  by_cases hb : b = d
  · subst hb
    rw [e] at h
    cases h
    exact upd_same
  · rw [upd_ne hb]
    exact s b o (by rw [upd_ne hb]; exact h)
def ModR (CM CP : Addr) (H : Hp) (st : ST) (v : V) : Prop := ∃ m dx tp te ta nd pvs avs kvs, v = .ref m ∧ H m = some (.ins CM dx (mflds (.ref tp) (.ref te) (.ref ta) (.ref nd))) ∧ H tp = some (.tup pvs) ∧ Paired (PieceAt CP H) st.ps pvs ∧ H te = some (.tup (st.ex.map V.str)) ∧
  H ta = some (.tup avs) ∧ Paired (AliAt H) st.al avs ∧ Rd H nd (.dK kvs) ∧ NamedOk kvs (st.ps.map (·.name) ++ st.al.map (·.1))
/-- .. whose dict of names is not at dp -/
def ModD (CM CP : Addr) (H : Hp) (dp : Addr) (st : ST) (v : V) : Prop := ∃ m dx tp te ta nd pvs avs kvs, v = .ref m ∧ H m = some (.ins CM dx (mflds (.ref tp) (.ref te) (.ref ta) (.ref nd))) ∧ H tp = some (.tup pvs) ∧ Paired (PieceAt CP H) st.ps pvs ∧ H te = some (.tup (st.ex.map V.str)) ∧
  H ta = some (.tup avs) ∧ Paired (AliAt H) st.al avs ∧ Rd H nd (.dK kvs) ∧ NamedOk kvs (st.ps.map (·.name) ++ st.al.map (·.1)) ∧ nd ≠ dp
theorem ModD.r {CM CP dp : Addr} {H : Hp} {st : ST} {v : V} (h : ModD CM CP H dp st v) : ModR CM CP H st v := by
  obtain ⟨m, dx, tp, te, ta, nd, pvs, avs, kvs, h0, h1, h2, h3, h4, h5, h6, h7, h8, _⟩ := h
  exact ⟨m, dx, tp, te, ta, nd, pvs, avs, kvs, h0, h1, h2, h3, h4, h5, h6, h7, h8⟩
theorem ModD.of {CM CP dp : Addr} {H0 H : Hp} {st : ST} {m : Addr} {o : HO} (h : ModAtN CM CP H0 H m st) (e : H0 dp = some o) : ModD CM CP H dp st (.ref m) := by
  obtain ⟨dx, tp, te, ta, nd, pvs, avs, kvs, h1, h2, h3, h4, h5, h6, h7, h8, h9⟩ := h
  exact ⟨m, dx, tp, te, ta, nd, pvs, avs, kvs, rfl, h1, h2, h3, h4, h5, h6, .inl h7, h8, (ne_of_none e h9).symm⟩
theorem ModD.same {CM CP dp : Addr} {H H' : Hp} (s : Same H H') {st : ST} {v : V} (h : ModD CM CP H dp st v) : ModD CM CP H' dp st v := by
  obtain ⟨m, dx, tp, te, ta, nd, pvs, avs, kvs, h0, h1, h2, h3, h4, h5, h6, h7, h8, h9⟩ := h
  have k := Ke.of s
  exact ⟨m, dx, tp, te, ta, nd, pvs, avs, kvs, h0, k.ins _ _ _ _ h1, k.tup _ _ h2, pair_mono (fun _ _ h => h.mono k.fix) h3, k.tup _ _ h4, k.tup _ _ h5, pair_mono (fun _ _ h => h.mono (CP := CP) k.fix) h6, k.dk _ _ h7, h8, h9⟩
theorem ModD.put {CM CP dp : Addr} {H : Hp} {kv0 kv1 : List (Key × V)} (e : H dp = some (.dK kv0)) {st : ST} {v : V} (h : ModD CM CP H dp st v) : ModD CM CP (upd H dp (.dK kv1)) dp st v := by
  obtain ⟨m, dx, tp, te, ta, nd, pvs, avs, kvs, h0, h1, h2, h3, h4, h5, h6, h7, h8, h9⟩ := h
  have f : Fix CP H (upd H dp (.dK kv1)) := Fix.dK e
  have t : ∀ {q : Addr} {xs : List V}, H q = some (.tup xs) → upd H dp (.dK kv1) q = some (.tup xs) := fun {q xs} h => f.1 _ _ h
  refine ⟨m, dx, tp, te, ta, nd, pvs, avs, kvs, h0, ?_, t h2, pair_mono (fun _ _ h => h.mono f) h3, t h4, t h5, pair_mono (fun _ _ h => h.mono (CP := CP) f) h6, ?_, h8, h9⟩
  · rw [upd_ne (ne_of h1 e (by intro z; cases z))]
    exact h1
  · rcases h7 with h7 | ⟨o, h7⟩
    · exact .inl (by rw [upd_ne h9]; exact h7)
    · exact .inr ⟨o, by rw [upd_ne h9]; exact h7⟩
theorem ModR.mono {CM CP : Addr} {H H' : Hp} (k : Ke H H') {st : ST} {v : V} (h : ModR CM CP H st v) : ModR CM CP H' st v := by
  obtain ⟨m, dx, tp, te, ta, nd, pvs, avs, kvs, h0, h1, h2, h3, h4, h5, h6, h7, h8⟩ := h
  exact ⟨m, dx, tp, te, ta, nd, pvs, avs, kvs, h0, k.ins _ _ _ _ h1, k.tup _ _ h2, pair_mono (fun _ _ h => h.mono k.fix) h3, k.tup _ _ h4, k.tup _ _ h5, pair_mono (fun _ _ h => h.mono (CP := CP) k.fix) h6, k.dk _ _ h7, h8⟩
def ParR (CM CP : Addr) (H : Hp) (d : Addr) (ms : MS) : Prop := ∃ kvs, Rd H d (.dK kvs) ∧ DR kS (ModR CM CP H) ms kvs
def AliR (H : Hp) (d : Addr) (l : List ((Str × Str) × Str)) : Prop := ∃ kvs, Rd H d (.dT kvs) ∧ DR kT (fun z v => v = .str z) l kvs
def LstAt (H : Hp) (zs : List Str) (v : V) : Prop := ∃ l, v = .ref l ∧ H l = some (.lst (zs.map V.str))
def ExpR (H : Hp) (d : Addr) (l : List (Str × List Str)) : Prop := ∃ kvs, Rd H d (.dK kvs) ∧ DR kS (LstAt H) l kvs
def PcR (CP : Addr) (H : Hp) (d : Addr) (l : List (Str × MP)) : Prop := ∃ kvs, Rd H d (.dK kvs) ∧ DR kS (PieceAt CP H) l kvs
section
variable {CM CP : Addr} {H H' : Hp} {d : Addr}
theorem ParR.mono {ms : MS} (k : Ke H H') (h : ParR CM CP H d ms) : ParR CM CP H' d ms := by
  obtain ⟨kvs, h1, h2⟩ := h
  exact ⟨kvs, k.dk _ _ h1, h2.mono fun _ _ h => h.mono k⟩
theorem AliR.mono {l : List ((Str × Str) × Str)} (k : Ke H H') (h : AliR H d l) : AliR H' d l := by
  obtain ⟨kvs, h1, h2⟩ := h
  exact ⟨kvs, k.dt _ _ h1, h2⟩
theorem LstAt.mono {zs : List Str} {v : V} (k : Ke H H') (h : LstAt H zs v) : LstAt H' zs v := by
  obtain ⟨l, h1, h2⟩ := h
  exact ⟨l, h1, k.lst _ _ h2⟩
theorem ExpR.mono {l : List (Str × List Str)} (k : Ke H H') (h : ExpR H d l) : ExpR H' d l := by
  obtain ⟨kvs, h1, h2⟩ := h
  exact ⟨kvs, k.dk _ _ h1, h2.mono fun _ _ h => h.mono k⟩
theorem PcR.mono {l : List (Str × MP)} (k : Ke H H') (h : PcR CP H d l) : PcR CP H' d l := by
  obtain ⟨kvs, h1, h2⟩ := h
  exact ⟨kvs, k.dk _ _ h1, h2.mono fun _ _ h => h.mono k.fix⟩
end
def sflds (a b c d : V) : List (Str × V) := [("parsed", a), ("aliases", b), ("exporters", c), ("pieces", d)]
def ScAt (CS CM CP : Addr) (H : Hp) (a dp : Addr) (ms : MS) (s : Sc) : Prop := ∃ dx da de dc, H a = some (.ins CS dx (sflds (.ref dp) (.ref da) (.ref de) (.ref dc))) ∧ ParR CM CP H dp ms ∧ AliR H da s.al ∧ ExpR H de s.ex ∧ PcR CP H dc s.pc
theorem ScAt.mono {CS CM CP : Addr} {H H' : Hp} {a dp : Addr} {ms : MS} {s : Sc} (k : Ke H H') (h : ScAt CS CM CP H a dp ms s) : ScAt CS CM CP H' a dp ms s := by
  obtain ⟨dx, da, de, dc, h1, h2, h3, h4, h5⟩ := h
  exact ⟨dx, da, de, dc, k.ins _ _ _ _ h1, h2.mono k, h3.mono k, h4.mono k, h5.mono k⟩
end PG

set_option Elab.async false
set_option linter.all false
set_option maxRecDepth 100000
set_option maxHeartbeats 4000000
/-! x in o, x not in o, len(o) by an own __contains__, __len__. -/
namespace FS
open PySem PySem.Spec PyProof.Rows L2
section
variable {X : Cx} {C f : Addr} {fd : FuncData} {ps : List Str} {sp : Sp} {k : Nat}
/-- an own special method is called -/
theorem run_own {A : Around} {pins : List (Addr × Obj)} {σ : L2.St} {H : Hp} {s : Shared} {Q : VK} {vs : List V} {us : List Value} (F : FnOk X.prog X.w X.K X.mg X.base CX0 k f fd ps sp) (b : Binds X.K fd ps []) (hr : Room k A) (hf : A.frames = X.A.frames) (hx : Passes CX0 X (fun _ _ _ => False))
    (I : Inv X pins σ H s) (r : Vals vs us) (h : sp vs H Q (fun _ _ _ => False)) : wpAny (model X.prog X.w) A (call (.ref f) us) (EP X pins σ Q) X.xe s := by
  have hl := F.len _ _ _ _ h
  have e0 : Env0 X.prog X.w X.K X.mg X.base A X.stack s H := by
    have e := I.env0
    exact ⟨by rw [hf]; exact e.frames, e.mod, e.bs, e.bsz, e.funs, e.frf, e.hok, e.bare⟩
  refine wpAny_call (codeAny_mono (F.run A X.stack s H ⟨us, []⟩ us vs Q _ hr e0 (by
    have := b s us I.kIn (by rw [List.append_nil, ← r.length]; exact hl)
    rw [List.append_nil] at this
    exact this) r h) fun r s' hq => ?_)
  cases r with
  | error e => exact hx pins σ H s e s' I hq
  | ok fl =>
    cases fl with
    | ret u => exact I.after hq
    | next => exact False.elim hq
    | brk => exact False.elim hq
    | cont => exact False.elim hq
def rInOwn (C : Addr) (sp : Sp) (neg : Bool) : R2 := fun x y H Q => ∃ m dx fs, y = .ref m ∧ H m = some (.ins C dx fs) ∧ sp [.ref m, x] H (fun v H2 => ∃ b, v = .bl b ∧ Q (.bl (if neg then !b else b)) H2) (fun _ _ _ => False)
theorem op_in_own (hs : PySem.W.findIn X.K (.ref C) "__contains__" = some (some (.ref f))) (hif : PySem.W.isFn X.K (.ref f) = true) (F : FnOk X.prog X.w X.K X.mg X.base CX0 k f fd ps sp) (b : Binds X.K fd ps []) (hr : Room k X.A) (hx : Passes CX0 X (fun _ _ _ => False)) :
    OpR X (compareOp .In) (rInOwn C sp false) := by
  intro pins s σ H x y v u Q I rx ry ⟨m, dx, fs, ey, hm, hsp⟩
  subst ey
  cases ry
  obtain ⟨mA, J, _⟩ := ins_get I.hok hm
  obtain ⟨od, J, _⟩ := J.look
  obtain ⟨m0, hF⟩ := I.fr
  refine PySem.W.in_K hF I.ok.mod.kin J hs hif (wpAny_mono (run_own F b hr rfl hx I (.cons (show RelV (V.ref m) (Value.ref m) from rfl) (.cons rx .nil)) hsp) (fun r s' hq => ?_) fun _ _ z => z)
  obtain ⟨z, H', I', rz, c, ez, q⟩ := hq
  subst ez
  cases rz
  exact wpAny_truthy_bool ⟨.bl c, H', I', rfl, q⟩
theorem op_notIn_own (hs : PySem.W.findIn X.K (.ref C) "__contains__" = some (some (.ref f))) (hif : PySem.W.isFn X.K (.ref f) = true) (F : FnOk X.prog X.w X.K X.mg X.base CX0 k f fd ps sp) (b : Binds X.K fd ps []) (hr : Room k X.A) (hx : Passes CX0 X (fun _ _ _ => False)) :
    OpR X (compareOp .NotIn) (rInOwn C sp true) := by
  intro pins s σ H x y v u Q I rx ry ⟨m, dx, fs, ey, hm, hsp⟩
  subst ey
  cases ry
  obtain ⟨mA, J, _⟩ := ins_get I.hok hm
  obtain ⟨od, J, _⟩ := J.look
  obtain ⟨m0, hF⟩ := I.fr
  refine PySem.W.notIn_K hF I.ok.mod.kin J hs hif (wpAny_mono (run_own F b hr rfl hx I (.cons (show RelV (V.ref m) (Value.ref m) from rfl) (.cons rx .nil)) hsp) (fun r s' hq => ?_) fun _ _ z => z)
  obtain ⟨z, H', I', rz, c, ez, q⟩ := hq
  subst ez
  cases rz
  exact wpAny_truthy_bool ⟨.bl (!c), H', I', rfl, q⟩
def rLenOwn (C : Addr) (sp : Sp) : List V → Hp → VK → Prop := fun xs H Q => ∃ m dx fs, xs = [.ref m] ∧ H m = some (.ins C dx fs) ∧ sp [.ref m] H (fun v H2 => ∃ n : Nat, v = .int n ∧ n ≤ sizeLine ∧ Q (.int n) H2) (fun _ _ _ => False)
theorem call_len_own (hs : PySem.W.findIn X.K (.ref C) "__len__" = some (some (.ref f))) (hif : PySem.W.isFn X.K (.ref f) = true) (F : FnOk X.prog X.w X.K X.mg X.base CX0 k f fd ps sp) (b : Binds X.K fd ps []) (hr : Room (k + 1) X.A) (hx : Passes CX0 X (fun _ _ _ => False)) :
    CallR X (.builtin "len") (rLenOwn C sp) := by
  intro pins s σ H xs us Q I r ⟨m, dx, fs, ex, hm, hsp⟩
  subst ex
  obtain ⟨u, rfl, ru⟩ := vals1 r
  cases ru
  obtain ⟨mA, J, _⟩ := ins_get I.hok hm
  obtain ⟨od, J, _⟩ := J.look
  obtain ⟨m0, hF⟩ := I.fr
  refine PySem.W.len_K hF I.ok.mod.kin J hs hif (wpAny_mono (run_own (A := X.A.in1) F b hr.in1 rfl hx I (.cons (show RelV (V.ref m) (Value.ref m) from rfl) .nil) hsp) (fun r s' hq => ?_) fun _ _ z => z)
  obtain ⟨z, H', I', rz, n, ez, hn, q⟩ := hq
  subst ez
  obtain ⟨t, rfl⟩ := rz
  refine ⟨⟨Int.natCast_nonneg _, ?_⟩, ⟨.int n, H', I'.tok _, ⟨_, rfl⟩, q⟩⟩
  rw [sizeLine_eq] at hn
  omega
end
end FS

set_option Elab.async false
set_option linter.all false
set_option maxRecDepth 100000
set_option maxHeartbeats 4000000
/-! == of two tuples of any lengths whose items ahead of the shorter one's end are equal by their own ==. -/
namespace GZ
open PySem PySem.SeqAt
open AutoSeq1 (wpAny_loadPart')
open MeetsSeq MeetsSeq2 MeetsSeq3 SeqRoads2
open GQ
section
variable {prog : Program} {w : World} {A : Around} {R : Result → Shared → Prop}
theorem tuple_eqM (l b : Addr) (items items2 : Array Value) (n n2 : Nat) (dd dd2 : Option Addr) (sl sl2 : Array (Option Value)) (I : Nat → Shared → Prop)
    (turn : ∀ i (h1 : i < items.size) (h2 : i < items2.size) s, I i s → wpAny (model prog w) A.in1 (eqBool items[i] items2[i]) (fun r s' => r = true ∧ I (i + 1) s') (fun e s' => R (.error e) s') s)
    (fin : ∀ s, I (min items.size items2.size) s → R (.ok (.ret (.bool (items.size == items2.size)))) s) {s : Shared} (hl1 : s.heap.get? l = some { cls := .type "tuple", dict := dd, data := .seq items n, slots := sl }) (hb1 : s.heap.get? b = some { cls := .type "tuple", dict := dd2, data := .seq items2 n2, slots := sl2 }) (h : I 0 s) :
    wpAny (model prog w) A.in1 (Builtin.«tuple.__eq__» ⟨[.ref l, .ref b], []⟩) (FinOf prog w A R) (fun e s' => R (.error e) s') s := by
  have f2 := AutoSeq1.sub_tuple_tuple
  have hZ : (items.toList.zip items2.toList).length = min items.size items2.size := by simp
  have h0 := h
  obtain ⟨hp, g, d, tk, os⟩ := s
  wp_walk using wpAny_loadPart' hl1, wpAny_loadPart' hb1, wpAny_forIn_list _ (fun rest b s' => b.1 = none ∧ ∃ i, rest = (items.toList.zip items2.toList).drop i ∧ i ≤ min items.size items2.size ∧ I i s') _
  case turn =>
    rintro ⟨y, x⟩ rest b s' ⟨hb', i, hz, hi, hI⟩
    have hlt : i < (items.toList.zip items2.toList).length := by
      rcases Nat.lt_or_ge i (items.toList.zip items2.toList).length with h' | h'
      · exact h'
      · rw [List.drop_of_length_le h'] at hz; cases hz
    have hm : i < min items.size items2.size := hZ ▸ hlt
    have h1 : i < items.size := by omega
    have h2 : i < items2.size := by omega
    rw [List.drop_eq_getElem_cons hlt] at hz
    injection hz with hyx hrest
    have hy : y = items[i] := by have := congrArg Prod.fst hyx; simpa using this
    have hx : x = items2[i] := by have := congrArg Prod.snd hyx; simpa using this
    subst hy hx
    refine wpAny_bind (wpAny_mono (turn i h1 h2 s' hI) (fun r s2 q2 => ?_) fun _ _ x => x)
    obtain ⟨hr, q2⟩ := q2
    subst hr
    wp_walk
    exact ⟨rfl, i + 1, hrest, hm, q2⟩
  case fin =>
    rintro ⟨b1, b2⟩ s' ⟨hb', i, hz, hi, hI⟩
    simp only at hb'
    subst hb'
    have hge : min items.size items2.size ≤ i := by
      rcases Nat.lt_or_ge i (items.toList.zip items2.toList).length with h' | h'
      · rw [List.drop_eq_getElem_cons h'] at hz; cases hz
      · exact hZ ▸ h'
    have hi' : i = min items.size items2.size := by omega
    have hR : R (.ok (.ret (.bool (items.size == items2.size)))) s' := fin s' (hi' ▸ hI)
    wp_walk
    simpa [Builtin.Tuple.tupleCompareSizes] using hR
  case h =>
    exact ⟨rfl, 0, rfl, Nat.zero_le _, h0⟩
end
section
variable {prog : Program} {w : World} {A : Around} {E : Value → Shared → Prop} {s : Shared}
theorem rc_tupM {l b : Addr} {items items2 : Array Value} {Q : Value → Shared → Prop} (hu : A.units < cLine) (I : Nat → Shared → Prop)
    (hl : s.heap.IsTuple l items) (hb : s.heap.IsTuple b items2)
    (turn : ∀ i (h1 : i < items.size) (h2 : i < items2.size) s, I i s → wpAny (model prog w) A.in1 (eqBool items[i] items2[i]) (fun r s' => r = true ∧ I (i + 1) s') E s)
    (fin : ∀ s, I (min items.size items2.size) s → Q (.bool (items.size == items2.size)) s) (h : I 0 s) : wpAny (model prog w) A (richCompare .Eq (.ref l) (.ref b)) Q E s := by
  obtain ⟨⟨cls, dd, data, sl⟩, ho, hc, n, hd⟩ := id hl
  obtain ⟨⟨cls2, dd2, data2, sl2⟩, ho2, hc2, n2, hd2⟩ := id hb
  simp only at hc hd hc2 hd2
  subst hc hd hc2 hd2
  refine wpAny_richCompare_same_room (op := .Eq) ⟨_, ho, rfl⟩ ⟨_, ho2, rfl⟩ F.slot_tuple_eq (call_here F.slot_tuple_eq ⟨_, ho, rfl⟩ F.entry_tuple_eq (F.args_tuple_eq_2 _ _) ?_) hu
  exact tuple_eqM (R := wants (fun v s' => v ≠ .notImplemented ∧ Q v s') E) l b items items2 n n2 dd dd2 sl sl2 I turn (fun s' q => ⟨(fun x => nomatch x), fin s' q⟩) ho ho2 h
end
end GZ
namespace FS
open PySem PySem.Spec PyProof.Rows L2
section
variable {X : Cx} {n : Nat} {D : Eqv}
def rEqM (K : PySem.W.Frag) (D : Eqv) : R2 := fun x y H Q => ∃ a b xs ys, x = .ref a ∧ y = .ref b ∧ SqT K H a xs ∧ SqT K H b ys ∧ (∀ (i : Nat) x y, xs[i]? = some x → ys[i]? = some y → D x y H) ∧ ∀ H', Ext H H' → Q (.bl (xs.length == ys.length)) H'
theorem op_eqM (hD : Mon D) (h : EqG X n D) (hr : Room (n + 1) X.A) : OpR X (compareOp .Eq) (rEqM X.K D) := by
  intro pins s σ H x y v u Q I rx ry hq
  obtain ⟨a, b, xs, ys, rfl, rfl, ha, hb, p, q⟩ := hq
  cases rx
  cases ry
  obtain ⟨its, r, e, z⟩ := I.tuple ha
  obtain ⟨its2, r2, e2, z2⟩ := I.tuple hb
  show wpAny (model X.prog X.w) X.A (richCompare .Eq (.ref a) (.ref b)) (EP X pins σ Q) X.xe s
  have sb : Sub X (n + 1) X.A := ⟨hr, rfl⟩
  refine GZ.rc_tupM hr.units0 (fun _ s' => LoopI X pins σ H s') e e2 (fun i h1 h2 s' l => ?_) (fun s' l => ?_) ⟨H, I, Ext.rfl'⟩
  · obtain ⟨H1, I1, e1⟩ := l
    have g1 : its[i]? = some its.toArray[i] := by
      have h1' : i < its.length := by simpa using h1
      rw [List.getElem?_eq_getElem h1'] <;> simp
    have g2 : its2[i]? = some its2.toArray[i] := by
      have h2' : i < its2.length := by simpa using h2
      rw [List.getElem?_eq_getElem h2'] <;> simp
    have k1 : i < xs.length := by rw [r.length]; simpa using h1
    have k2 : i < ys.length := by rw [r2.length]; simpa using h2
    obtain ⟨u, hu, ru⟩ := r.get (List.getElem?_eq_getElem k1)
    obtain ⟨v, hv, rv⟩ := r2.get (List.getElem?_eq_getElem k2)
    rw [g1] at hu
    rw [g2] at hv
    rw [Option.some.inj hu, Option.some.inj hv]
    refine wpAny_mono (h X.A.in1 pins s' σ H1 _ _ u v sb.in1 I1 ru rv (hD _ _ _ _ e1 (p i _ _ (List.getElem?_eq_getElem k1) (List.getElem?_eq_getElem k2)))) (fun r s2 q => ?_) fun _ _ x => x
    obtain ⟨hr, H2, I2, e2⟩ := q
    exact ⟨hr, H2, I2, e1.trans e2⟩
  · obtain ⟨H1, I1, e1⟩ := l
    refine ⟨.bl (its.toArray.size == its2.toArray.size), H1, I1, rfl, ?_⟩
    rw [List.size_toArray, List.size_toArray, ← r.length, ← r2.length]
    exact q H1 e1
/-- str of a text or a whole number -/
def rStrV : List V → Hp → VK → Prop := fun xs H Q => (∃ z, xs = [.str z] ∧ Q (.str z) H) ∨ ∃ i, xs = [.int i] ∧ i.natAbs.log2 < 1920 ∧ Q (.str (toString i)) H
end
end FS

set_option Elab.async false
set_option linter.all false
set_option maxRecDepth 100000
set_option maxHeartbeats 4000000
/-! == and != by an own __eq__, whatever that answers. -/
namespace FS
open PySem PySem.Spec PyProof.Rows L2
section
variable {prog : Program} {w : World} {A : Around} {E : Value → Shared → Prop} {s : Shared} {K : PySem.W.Frag} {x y C f L : Addr} {h₀ : Heap} {m : Str → Option Value} {ox : Obj} {od : Option Obj}
theorem ne_body {Q : Fin → Shared → Prop} (hu : A.units < cLine) (X : K.In s.heap) (I : PySem.W.InstAt s.heap x ox C od) (hs : PySem.W.findIn K (.ref C) "__eq__" = some (some (.ref f))) (hf : PySem.W.isFn K (.ref f) = true)
    (hc : wpAny (model prog w) A (call (.ref f) [.ref x, .ref y]) (fun v s' => ∃ b, v = .bool b ∧ Q (.done (.ret (.bool (!b)))) s') E s) :
    wpAny (model prog w) A (Builtin.«object.__ne__» ⟨[.ref x, .ref y], []⟩) Q E s := by
  unfold Builtin.«object.__ne__»
  repeat (first
    | with_reducible refine wpAny_cRoomFor hu ?_
    | (refine wpAny_bind (m := callSpecialIfBound? (.ref x) (Str.ofString "__eq__") [.ref y])
        (PySem.W.ifBound_K X I hs hf (wpAny_mono hc (fun r s' hr => by
          obtain ⟨b, e, z⟩ := hr
          subst e
          repeat (first | exact z | exact wpAny_pure z | exact wpAny_truthy_bool z | (refine wpAny_bind (m := truthy (.bool _)) (wpAny_truthy_bool ?_)) | wp_step)) fun _ _ e => e)))
    | wp_step)
theorem ne_bound {args : List Value} {Q : Option Value → Shared → Prop} (X : K.In s.heap) (I : PySem.W.InstAt s.heap x ox C od) (hs : PySem.W.findIn K (.ref C) "__ne__" = some (some (.builtin "object.__ne__")))
    (hc : wpAny (model prog w) A (call (.builtin "object.__ne__") (.ref x :: args)) (fun v => Q (some v)) E s) : wpAny (model prog w) A (callSpecialIfBound? (.ref x) "__ne__" args) Q E s := by
  have rest : wpAny (model prog w) A (call (.builtin "object.__ne__") ([.ref x] ++ args) >>= fun v => pure (some v)) Q E s := wpAny_bind (wpAny_mono hc (fun v s' q => wpAny_pure q) fun _ _ q => q)
  simp only [callSpecialIfBound?, bindSpecialIfBound?]
  apply wpAny_holding
  apply wpAny_bind
  apply wpAny_bind
  apply wpAny_bind
  refine I.type.here ((PySem.W.looks_findIn X hs).here ?_)
  apply wpAny_bind
  apply wpAny_askSetting
  apply wpAny_ite
  split
  · exact wpAny_bind (wpAny_of_eq (F.cmp_object.ne.bind _) (wpAny_pure (by exact rest)))
  · exact wpAny_tryCatch (wpAny_bind (wpAny_of_eq (F.cmp_object.ne.bind _) (wpAny_pure (by exact rest))))
theorem ne_rich {Q : Value → Shared → Prop} (hu : A.units + 1 < cLine) (X : K.In s.heap) (I : PySem.W.InstAt s.heap x ox C od) (hy : PySem.W.Looks (model prog w) s.heap (typeOf (.ref y)) (.ref C))
    (hm : PySem.W.mroIn K C (.type "object") = some true) (hn : PySem.W.findIn K (.ref C) "__ne__" = some (some (.builtin "object.__ne__"))) (hs : PySem.W.findIn K (.ref C) "__eq__" = some (some (.ref f))) (hf : PySem.W.isFn K (.ref f) = true)
    (hc : wpAny (model prog w) A.in1 (call (.ref f) [.ref x, .ref y]) (fun v s' => ∃ b, v = .bool b ∧ Q (.bool (!b)) s') E s) : wpAny (model prog w) A (richCompare .NotEq (.ref x) (.ref y)) Q E s := by
  have one : wpAny (model prog w) A (tryCompare (.ref x) "__ne__" (.ref y)) (fun r s' => ∃ b, r = some (.bool b) ∧ Q (.bool b) s') E s := by
    unfold tryCompare
    apply wpAny_bind
    refine ne_bound X I hn ?_
    refine wpAny_call (codeAny_call_builtin F.cmp_object.ne.plain F.cmpEntry_ne (PySem.W.check_slot F.cmpKind_ne F.cmpSplit_ne (I.type.andThen (PySem.W.looks_mroIn X hm)) (F.cmpArgs_ne _ _) (ne_body (A := A.in1) (f := f) ?_ X I hs hf (wpAny_mono hc (fun v s' q => ?_) fun _ _ q => q))))
    · show A.units + 1 < cLine
      exact hu
    · obtain ⟨b, e, z⟩ := q
      exact ⟨b, e, wpAny_pure ⟨_, rfl, z⟩⟩
  unfold richCompare
  simp only [oneThing_ref]
  apply wpAny_holding
  apply wpAny_bind
  refine wpAny_cRoomFor (Nat.lt_of_succ_lt hu) ?_
  rw [cmpInfo_NotEq]
  dsimp only
  apply wpAny_bind
  refine I.type.here ?_
  apply wpAny_bind
  refine hy.here ?_
  split
  · rename_i z
    simp at z
  · apply wpAny_bind
    apply wpAny_pure
    simp only [Bool.false_eq_true, if_false]
    apply wpAny_bind
    refine wpAny_mono one (fun r s' q => ?_) fun _ _ q => q
    obtain ⟨b, e, z⟩ := q
    subst e
    exact wpAny_pure z
end
section
variable {X : Cx} {n : Nat} {C f : Addr} {fd : FuncData} {ps : List Str} {sp : Sp} {CX : CXT} {E : XK}
def rEqO (C : Addr) (sp : Sp) (E : XK) (g : Bool → Bool) : R2 := fun x y H Q => ∃ a b dx dy fs gs, x = .ref a ∧ y = .ref b ∧ H a = some (.ins C dx fs) ∧ H b = some (.ins C dy gs) ∧ sp [.ref a, .ref b] H (fun v H' => ∃ c, v = .bl c ∧ Q (.bl (g c)) H') E
/-- the own == runs -/
theorem run_eqO {A : Around} {pins : List (Addr × Obj)} {s : Shared} {σ : L2.St} {H : Hp} {a b : Addr} {Z : V → Hp → Prop} (F : FnOk X.prog X.w X.K X.mg X.base CX n f fd ps sp) (hb : Binds X.K fd ps []) (hx : Passes CX X E) (room : Room n A) (fr : A.frames = X.A.frames)
    (I : Inv X pins σ H s) (q : sp [.ref a, .ref b] H Z E) : wpAny (model X.prog X.w) A (call (.ref f) [.ref a, .ref b]) (EP X pins σ Z) X.xe s := by
  have r2 : Vals [V.ref a, V.ref b] [Value.ref a, Value.ref b] := .cons rfl (.cons rfl .nil)
  have hl := F.len _ _ _ _ q
  have e0 : Env0 X.prog X.w X.K X.mg X.base A X.stack s H := by
    have e := I.env0
    exact ⟨by rw [fr]; exact e.frames, e.mod, e.bs, e.bsz, e.funs, e.frf, e.hok, e.bare⟩
  have bd := hb s [.ref a, .ref b] I.kIn (by rw [List.append_nil]; exact hl)
  rw [List.append_nil] at bd
  refine wpAny_call (codeAny_mono (F.run A X.stack s H ⟨[.ref a, .ref b], []⟩ _ _ Z E room e0 bd r2 q) fun r s' o => ?_)
  match r, o with
  | .error er, o => exact hx pins σ H s er s' I o
  | .ok (.ret u), o => exact I.after o
  | .ok .next, o => exact o.elim
  | .ok .brk, o => exact o.elim
  | .ok .cont, o => exact o.elim
theorem op_eqO (F : FnOk X.prog X.w X.K X.mg X.base CX n f fd ps sp) (hs : PySem.W.findIn X.K (.ref C) "__eq__" = some (some (.ref f))) (hf : PySem.W.isFn X.K (.ref f) = true) (hb : Binds X.K fd ps []) (hx : Passes CX X E) (hr : Room n X.A) :
    OpR X (compareOp .Eq) (rEqO C sp E id) := by
  intro pins s σ H x y v u Q I rx ry hq
  obtain ⟨a, b, dx, dy, fs, gs, rfl, rfl, ha, hb', q⟩ := hq
  cases rx
  cases ry
  obtain ⟨mA, J, _⟩ := ins_get I.hok ha
  obtain ⟨mB, J', _⟩ := ins_get I.hok hb'
  obtain ⟨od, J, _⟩ := J.look
  obtain ⟨od', J', _⟩ := J'.look
  obtain ⟨m, hF⟩ := I.fr
  show wpAny (model X.prog X.w) X.A (richCompare .Eq (.ref a) (.ref b)) (EP X pins σ Q) X.xe s
  refine PySem.W.cmp_K (op := .Eq) (tb := .ref C) hr.units0 hF I.ok.mod.kin J J'.type (by simp [PySem.W.notFirst]) hs hf ?_
  refine thn (run_eqO F hb hx hr rfl I q) fun z s' ⟨v1, H', I', rz, c, ec, qc⟩ => ?_
  subst ec
  cases rz
  exact ⟨.bl c, H', I', rfl, qc⟩
theorem op_neO (F : FnOk X.prog X.w X.K X.mg X.base CX n f fd ps sp) (hm : PySem.W.mroIn X.K C (.type "object") = some true) (hn : PySem.W.findIn X.K (.ref C) "__ne__" = some (some (.builtin "object.__ne__"))) (hs : PySem.W.findIn X.K (.ref C) "__eq__" = some (some (.ref f))) (hf : PySem.W.isFn X.K (.ref f) = true)
    (hb : Binds X.K fd ps []) (hx : Passes CX X E) (hr : Room (n + 1) X.A) : OpR X (compareOp .NotEq) (rEqO C sp E (!·)) := by
  intro pins s σ H x y v u Q I rx ry hq
  obtain ⟨a, b, dx, dy, fs, gs, rfl, rfl, ha, hb', q⟩ := hq
  cases rx
  cases ry
  obtain ⟨mA, J, _⟩ := ins_get I.hok ha
  obtain ⟨mB, J', _⟩ := ins_get I.hok hb'
  obtain ⟨od, J, _⟩ := J.look
  obtain ⟨od', J', _⟩ := J'.look
  show wpAny (model X.prog X.w) X.A (richCompare .NotEq (.ref a) (.ref b)) (EP X pins σ Q) X.xe s
  refine ne_rich (f := f) (Nat.lt_of_le_of_lt (Nat.add_le_add_left (by decide : 1 ≤ 64) _) hr.units) I.kIn J J'.type hm hn hs hf ?_
  refine thn (run_eqO F hb hx hr.in1 rfl I q) fun z s' ⟨v1, H', I', rz, c, ec, qc⟩ => ?_
  subst ec
  cases rz
  exact ⟨c, rfl, .bl (!c), H', I', rfl, qc⟩
end
end FS

set_option Elab.async false
set_option linter.all false
set_option maxRecDepth 100000
set_option maxHeartbeats 4000000
/-! str of an instance by its own __str__. -/
namespace FS
open PySem PySem.Spec PyProof.Rows L2
section
open Builtin Builtin.Str
variable {prog : Program} {w : World} {A : Around} {E : Value → Shared → Prop} {s : Shared} {K : PySem.W.Frag} {x C f : Addr} {ox : Obj} {od : Option Obj}
theorem strOf_own {Q : Value → Shared → Prop} (hu : A.units < cLine) (X : K.In s.heap) (I : PySem.W.InstAt s.heap x ox C od) (hs : PySem.W.findIn K (.ref C) "__str__" = some (some (.ref f))) (hf : PySem.W.isFn K (.ref f) = true)
    (h : wpAny (model prog w) A (call (.ref f) [.ref x]) (fun v s' => ∃ y t, v = .str y t ∧ Q v s') E s) : wpAny (model prog w) A (Builtin.Str.strOf (.ref x)) Q E s := by
  unfold Builtin.Str.strOf
  rw [show isExactStr (.ref x) = false from rfl]
  simp only [Bool.false_eq_true, if_false, pure_bind]
  refine wpAny_bind (m := cRoomFor _ _) (wpAny_cRoomFor hu ?_)
  refine wpAny_bind (m := callSpecial? (.ref x) (Str.ofString "__str__")) (PySem.W.special_fn X I hs (beq_iff_eq.mp hf) (wpAny_mono h (fun r s' hr => ?_) fun _ _ y => y))
  obtain ⟨y, t, rfl, q⟩ := hr
  repeat (first | exact wpAny_pure q | exact q | (refine wpAny_bind (wpAny_pure ?_)) | wp_step)
theorem call_strO {Q : Value → Shared → Prop} (hu : A.in1.in1.units < cLine) (X : K.In s.heap) (I : PySem.W.InstAt s.heap x ox C od) (hs : PySem.W.findIn K (.ref C) "__str__" = some (some (.ref f))) (hf : PySem.W.isFn K (.ref f) = true)
    (h : wpAny (model prog w) A.in1.in1 (call (.ref f) [.ref x]) (fun v s' => ∃ y t, v = .str y t ∧ Q v s') E s) : wpAny (model prog w) A (call (.type "str") [.ref x]) Q E s :=
  callType_newIn F.called_str (by decide) (F.typeCall_str_1 _) (F.newCall_str_1 _) (fun obj => F.args_object_init_2 obj _) F.entry_str_new
    (MeetsIn.of_wp (S := fun A R s => wpAny (model prog w) A.in1 (Builtin.Str.strOf (.ref x)) (fun r s' => R (.ok (.ret r)) s') (fun e s' => R (.error e) s') s) fun A R s h => by
      rw [str_new_tree]
      refine wpAny_bind (wpAny_pure ?_)
      refine wpAny_bind (wpAny_of_eq isSubtype_str_str ?_)
      exact wpAny_bind (wpAny_mono h (fun r s' h' => wpAny_pure ⟨_, rfl, h'⟩) fun _ _ e => e))
    (strOf_own hu X I hs hf (wpAny_mono h (fun v s' q => by
      obtain ⟨y, t, e, q⟩ := q
      subst e
      exact ⟨y, t, rfl, typeIs_str _ _ _, q⟩) fun _ _ e => e))
end
section
variable {X : Cx} {n : Nat} {C f : Addr} {fd : FuncData} {ps : List Str} {sp : Sp} {CX : CXT} {E : XK}
def rStrO (C : Addr) (sp : Sp) (E : XK) : List V → Hp → VK → Prop := fun xs H Q => ∃ a dx fs, xs = [.ref a] ∧ H a = some (.ins C dx fs) ∧ sp [.ref a] H (fun v H' => ∃ z, v = .str z ∧ Q (.str z) H') E
theorem call_strOwn (F : FnOk X.prog X.w X.K X.mg X.base CX n f fd ps sp) (hs : PySem.W.findIn X.K (.ref C) "__str__" = some (some (.ref f))) (hf : PySem.W.isFn X.K (.ref f) = true) (hb : Binds X.K fd ps []) (hx : Passes CX X E) (hr : Room (n + 2) X.A) :
    CallR X (.type "str") (rStrO C sp E) := by
  intro pins s σ H xs us Q I r hq
  obtain ⟨a, dx, fs, rfl, ha, q⟩ := hq
  obtain ⟨u, rfl, rv⟩ := vals1 r
  cases rv
  obtain ⟨mA, J, _⟩ := ins_get I.hok ha
  obtain ⟨od, J, _⟩ := J.look
  refine call_strO (f := f) hr.in1.in1.units0 I.kIn J hs hf ?_
  have r2 : Vals [V.ref a] [Value.ref a] := .cons rfl .nil
  have hl := F.len _ _ _ _ q
  have e0 : Env0 X.prog X.w X.K X.mg X.base X.A.in1.in1 X.stack s H := by
    have e := I.env0
    exact ⟨e.frames, e.mod, e.bs, e.bsz, e.funs, e.frf, e.hok, e.bare⟩
  have bd := hb s [.ref a] I.kIn (by rw [List.append_nil]; exact hl)
  rw [List.append_nil] at bd
  refine wpAny_call (codeAny_mono (F.run X.A.in1.in1 X.stack s H ⟨[.ref a], []⟩ _ _ _ E hr.in1.in1 e0 bd r2 q) fun r s' o => ?_)
  match r, o with
  | .error er, o => exact hx pins σ H s er s' I o
  | .ok (.ret u), o =>
    obtain ⟨v, H', I', rv, z, ez, qz⟩ := I.after o
    subst ez
    obtain ⟨t, rfl⟩ := rv
    exact ⟨z, t, rfl, .str z, H', I', ⟨t, rfl⟩, qz⟩
  | .ok .next, o => exact o.elim
  | .ok .brk, o => exact o.elim
  | .ok .cont, o => exact o.elim
end
end FS

set_option Elab.async false
set_option linter.all false
set_option maxRecDepth 100000
set_option maxHeartbeats 4000000
/-! Rows and modules as texts. -/
namespace KD
open PySem PySem.Spec PyProof.Rows L2 L2.FK FS TX TG PG
abbrev sRowLine : Stmt := top (TX.o + 8)
abbrev sLines : Stmt := top (TX.o + 9)
theorem b_join : bootBuiltins "tuple" = some (.type "tuple") := by decide +kernel
theorem log_s {i : Int} (h : i.natAbs < 1000) : i.natAbs.log2 < 1920 := by
  have := Nat.log2_le_self i.natAbs
  omega
section
variable {X : Cx}
theorem call_strV : CallR X (.type "str") rStrV := by
  intro pins s σ H xs us Q I r h
  rcases h with ⟨z, rfl, q⟩ | ⟨i, rfl, hi, q⟩
  · exact SkE.call_str_str pins s σ H _ us Q I r ⟨z, rfl, q⟩
  · exact call_str_int pins s σ H _ us Q I r ⟨i, rfl, hi, q⟩
theorem str_flat {v : V} {H : Hp} {Q : VK} (f : FlatV v) (q : Q (.str (vS v)) H) : rStrV [v] H Q := by
  rcases f with ⟨z, rfl⟩ | ⟨i, rfl, hi⟩
  · exact .inl ⟨z, rfl, q⟩
  · exact .inr ⟨i, rfl, log_s hi, q⟩
end
theorem line_eq (ws : List Str) : line ws = Str.join TG.SP ws := TL.join_eq TG.SP ws
theorem line2 (a b : Str) : line [a, b] = (a ++ TG.SP) ++ b := line_eq _
theorem line1 (a : Str) : line [a] = a := line_eq _
theorem sa (a b c : Str) : a ++ b ++ c = a ++ (b ++ c) := PySem.Str.append_assoc a b c
theorem line_al (a b : Str) : line [("alias" : Str), a, b] = (((("alias " : Str) ++ a) ++ TG.SP) ++ b) := by
  rw [line_eq]
  show (("alias" : Str) ++ TG.SP) ++ ((a ++ TG.SP) ++ b) = _
  rw [show ("alias " : Str) = ("alias" : Str) ++ TG.SP from by decide +kernel]
  simp only [sa]
theorem line_ex {es : List Str} (h : es ≠ []) : line (("export" : Str) :: es) = ("export " : Str) ++ Txt.join TG.SP es := by
  rw [line_eq, TL.join_eq]
  cases es with
  | nil => exact absurd rfl h
  | cons e r =>
    show (("export" : Str) ++ TG.SP) ++ Str.join TG.SP (e :: r) = _
    rw [show ("export " : Str) = ("export" : Str) ++ TG.SP from by decide +kernel]
theorem nil_app (a : Str) : Str.empty ++ a = a := PySem.Str.append_left_empty rfl
theorem app_len (a b : Str) : (a ++ b).length = a.length + b.length := by
  show (a ++ b).cps.size = a.cps.size + b.cps.size
  exact Array.size_append ..
theorem lens_le {ws : List Str} (h : ∀ z ∈ ws, z.length ≤ 20) : (ws.map (·.length)).sum + ws.length * TG.SP.length ≤ 21 * ws.length := by
  have h2 := sum_le (fun z : Str => z.length) 20 h
  have : TG.SP.length = 1 := by decide +kernel
  rw [this]
  omega
/-- two ways that meet again -/
theorem ite_join {c : Prop} [Decidable c] {A : Prop} {R : Hp → Prop} {H1 : Hp} (Pre : Hp → Prop) (k : ∀ H2, Pre H2 → R H2) (ha : c → (∀ H2, Pre H2 → R H2) → A) (hb : ¬c → Pre H1) : if c then A else R H1 := by
  by_cases h : c
  · rw [if_pos h]
    exact ha h k
  · rw [if_neg h]
    exact k _ (hb h)
theorem sl1000 {n : Nat} (h : n ≤ 100000) : n ≤ sizeLine := by
  have : sizeLine = 16777216 := rfl
  omega
section
variable {P : Program} {w : World} {K : PySem.W.Frag} {mg : Str → Option Value} {base : Heap}
def spRowLine : Sp := fun vs H Q _ => ∃ v r, vs = [v] ∧ RowAt H r v ∧ FlatR r ∧ (∀ z ∈ rW r, z.length ≤ 20) ∧ (rW r).length ≤ 4 ∧ ∀ H', Same H H' → Q (.str (line (rW r))) H'
theorem scRL : FnScope ["row", "part"] ["row"] (defScope sRowLine) := ⟨rfl, rfl, rfl, by decide +kernel, rfl, by decide +kernel, by decide +kernel⟩
theorem ok_rowline {f : Addr} {fd : FuncData} {k : Nat} (F : Fun K "row_line" "row_line" sRowLine f fd) (zi : mg "isinstance" = none) (zt : mg "tuple" = none) (zs : mg "str" = none) : FnOk P w K mg base CX0 (k + 1) f fd ["row"] spRowLine := by
  refine F.ok scRL (fun vs H Q E h => ?_) (fun cdv A outer s H vs Q E hr h => ?_)
  · obtain ⟨v, r, rfl, _⟩ := h
    rfl
  · obtain ⟨v, r, rfl, hr0, fl, hw, h4, q⟩ := h
    refine ⟨_, pss_cons (ps_if (pt_val (pe_callB (id := "isinstance") (r := rIsi K) call_isi (by rfl) zi b_isi (pa_cons (pv 0) (pa_cons (pe_bltn rfl zt b_join (v := .ty "tuple") rfl) pa_nil))))
        (pss_one (ps_ret (pe_bm PySem.F.plainAttrs_str PySem.F.slot_str_join PySem.F.type_str_join mt_join pe_str (pa_cons (pe_cw (K := K) (pe_lc (own := [("part", 1)]) (g := gName 1) (tt := tYes) rfl scRL.nd (pi_tup (pv 0)) (blkOk_by (N := ["row", "part"]) (sc := defScope sRowLine) (by decide +kernel)) (fun _ _ _ _ _ => pg_name (i := 1) scRL.nd rfl (Or.inl rfl)) (fun _ _ _ _ _ => pts_nil)
          (fun _ _ _ _ _ => pe_callTy call_strV (by rfl) zs b_str (pa_cons (pv 1) pa_nil))) mono_var) pa_nil)))) pss_nil)
      (pss_one (ps_ret (pe_callTy call_strV (by rfl) zs b_str (pa_cons (pv 0) pa_nil)))), ?_⟩
    have ks : PySem.W.kitOne K (.type "tuple") (.type "tuple") = some true := kit_ty (by decide +kernel)
    cases r with
    | ins xs =>
      obtain ⟨t, rfl, et⟩ := hr0
      refine ⟨.ref t, rfl, .ref t, .ty "tuple", .type "tuple", .type "tuple", true, rfl, .ty "tuple", .base (.tup et), ks, true, rfl, iteT ?_⟩
      have lx : xs.length ≤ 4 := by
        have : (xs.map vS).length ≤ 4 := h4
        rwa [List.length_map] at this
      refine ⟨rfl, .ref t, rfl, t, xs, (xs.map vS).map V.str, rfl, SqT.of et, by omega, (by show 1 < 2; decide), by rw [List.length_map, List.length_map], fun i x y τ H2 Q' hx hy s2 ht q' => ?_, fun D H' s' nD eD => ?_⟩
      · rw [List.getElem?_map, List.getElem?_map, hx] at hy
        cases hy
        exact ⟨x, ht, str_flat (fl x (List.mem_of_getElem? hx)) (q' H2 (Same.refl H2))⟩
      · refine ⟨TG.SP, D, xs.map vS, rfl, rfl, .inl (SqL.of eD), ?_, q H' s'⟩
        have := lens_le (ws := xs.map vS) hw
        have h4' : (xs.map vS).length ≤ 4 := h4
        omega
    | dat d =>
      have e : v = d := hr0
      subst e
      have q' : ∀ H', Same H H' → Q (.str (vS v)) H' := fun H' s => by
        have := q H' s
        rw [show line (rW (.dat v)) = vS v from line1 _] at this
        exact this
      have fl : FlatV v := fl
      have fin : rStrV [v] H fun v H' => Q v H' := str_flat fl (q' H (Same.refl H))
      rcases fl with ⟨z, rfl⟩ | ⟨i, rfl, hi⟩
      · exact ⟨.str z, rfl, .str z, .ty "tuple", .type "str", .type "tuple", false, rfl, .ty "tuple", .base (.str z), kit_ty (by decide +kernel), false, rfl, iteF ⟨.str z, rfl, fin⟩⟩
      · exact ⟨.int i, rfl, .int i, .ty "tuple", .type "int", .type "tuple", false, rfl, .ty "tuple", .base (.int i), kit_ty (by decide +kernel), false, rfl, iteF ⟨.int i, rfl, fin⟩⟩
/-! ### module_lines -/
structure TLn (K : PySem.W.Frag) (CM CP : Addr) : Prop where
  cM : Cls K CM
  nPieces : NoAttr K CM "pieces"
  nExports : NoAttr K CM "exports"
  nAliases : NoAttr K CM "aliases"
  cP : Cls K CP
  pName : NoAttr K CP "name"
  pKind : NoAttr K CP "kind"
  pRows : NoAttr K CP "rows"
/-- a good module -/
structure StG (st : ST) : Prop where
  ex : ∀ z ∈ st.ex, z.length ≤ 20
  exn : st.ex.length ≤ 50
  al : ∀ p ∈ st.al, p.1.length ≤ 20 ∧ p.2.length ≤ 20
  aln : st.al.length ≤ 50
  ps : ∀ p ∈ st.ps, PcG p ∧ p.name.length ≤ 20
  psn : st.ps.length ≤ 20
def LE (es : List Str) : List (List Str) := if es = [] then [] else [("export" : Str) :: es]
def LA (l : List (Str × Str)) : List (List Str) := l.map fun p => [("alias" : Str), p.1, p.2]
def LP (l : List MP) : List (List Str) := (l.map pcW).flatten
def modW (st : ST) : List (List Str) := LE st.ex ++ (LA st.al ++ LP st.ps)
theorem modW_eq (S : ST) : wordsOf (KD.whole S) = modW S := whole_words S
theorem pcG_lens {p : MP} (g : PcG p) : ∀ r ∈ p.rows, FlatR r ∧ (∀ z ∈ rW r, z.length ≤ 20) ∧ (rW r).length ≤ 4 := fun r hr => ⟨(g.rows r hr).flat, fun z hz => ((g.rows r hr).wd z hz).len, (g.rows r hr).few⟩
def spLines (CM CP : Addr) : Sp := fun vs H Q _ => ∃ m st, vs = [.ref m] ∧ ModR CM CP H st (.ref m) ∧ StG st ∧ ∀ H' p, Same H H' → H p = none → H' p = some (.lst (((modW st).map line).map V.str)) → Q (.ref p) H'
theorem scLn : FnScope ["module", "lines", "name", "other", "piece", "row"] ["module"] (defScope sLines) := ⟨rfl, rfl, rfl, by decide +kernel, rfl, by decide +kernel, by decide +kernel⟩
theorem lp_len : ∀ {l : List MP}, (∀ p ∈ l, p.rows.length ≤ 16) → (LP l).length ≤ 18 * l.length
  | [], _ => Nat.zero_le _
  | p :: r, h => by
    have ih := lp_len (l := r) fun q hq => h q (List.mem_cons_of_mem _ hq)
    have := h p (List.mem_cons_self ..)
    show (pcW p ++ LP r).length ≤ _
    rw [List.length_append, List.length_cons]
    unfold pcW
    rw [List.length_cons, List.length_append, List.length_map, List.length_singleton]
    omega
theorem take_one {α : Type} {l : List α} {i : Nat} {x : α} (h : l[i]? = some x) : l.take (i + 1) = l.take i ++ [x] := by
  rw [List.take_add_one, h]
  rfl
theorem lp_one (l : List MP) (p : MP) : LP (l ++ [p]) = LP l ++ pcW p := by
  unfold LP
  rw [List.map_append, List.flatten_append]
  show _ ++ [pcW p].flatten = _
  rw [List.flatten_cons, List.flatten_nil, List.append_nil]
theorem la_one (l : List (Str × Str)) (p : Str × Str) : LA (l ++ [p]) = LA l ++ [[("alias" : Str), p.1, p.2]] := by
  unfold LA
  rw [List.map_append]
  rfl
theorem kd_len {p : MP} (g : PcG p) : p.kind.length = 4 := by
  rcases g.kind with e | e <;> rw [e] <;> decide +kernel
theorem ok_lines {f fR : Addr} {fd fdR : FuncData} (F : Fun K "module_lines" "module_lines" sLines f fd) (T : TLn K CM CP) (GR : FnOk P w K mg base CX0 1 fR fdR ["row"] spRowLine) (bR : Binds K fdR ["row"] []) (gR : mg "row_line" = some (.ref fR)) (kR : PySem.W.keepIn K (.ref fR) = true) :
    FnOk P w K mg base CX0 2 f fd ["module"] (spLines CM CP) := by
  refine F.ok scLn (fun vs H Q E h => ?_) (fun cdv A outer s H vs Q E hr h => ?_)
  · obtain ⟨m, st, rfl, _⟩ := h
    rfl
  · obtain ⟨m, st, rfl, hm, g, q⟩ := h
    obtain ⟨m', dx, tp, te, ta, nd, pvs, avs, kvs, e0, h1, h2, h3, h4, h5, h6, h7, h8⟩ := hm
    cases e0
    refine ⟨_, pss_cons (ps_set (i := 1) scLn.nd rfl (.inl rfl) (pe_lstS pa_nil))
      (pss_cons (ps_if (pt_truth (pe_fld (pv 0) rfl) (fun _ => rfl)) (pss_one (ps_expr (pe_bm PySem.F.plainAttrs_list PySem.F.slot_list_append PySem.F.type_list_append mt_append (pv 1) (pa_cons (pe_op op_add_str pe_str (pe_bm PySem.F.plainAttrs_str PySem.F.slot_str_join PySem.F.type_str_join mt_join pe_str (pa_cons (pe_fld (pv 0) rfl) pa_nil))) pa_nil)))) pss_nil)
      (pss_cons (ps_for PassesOwn.never rfl (pi_tup (pe_fld (pv 0) rfl)) (pg_tup rfl (pgs_cons (pg_name (i := 2) scLn.nd rfl (Or.inl rfl)) (pgs_cons (pg_name (i := 3) scLn.nd rfl (Or.inl rfl)) pgs_nil)))
        (pss_one (ps_expr (pe_bm PySem.F.plainAttrs_list PySem.F.slot_list_append PySem.F.type_list_append mt_append (pv 1) (pa_cons (pe_joined (.cons pe_str (.cons (pe_fmt (pv 2)) (.cons pe_str (.cons (pe_fmt (pv 3)) .nil))))) pa_nil)))))
      (pss_cons (ps_for PassesOwn.never rfl (pi_tup (pe_fld (pv 0) rfl)) (pg_name (i := 4) scLn.nd rfl (Or.inl rfl))
        (pss_cons (ps_expr (pe_bm PySem.F.plainAttrs_list PySem.F.slot_list_append PySem.F.type_list_append mt_append (pv 1) (pa_cons (pe_joined (.cons (pe_fmt (pe_fld (pv 4) rfl)) (.cons pe_str (.cons (pe_fmt (pe_fld (pv 4) rfl)) .nil)))) pa_nil)))
        (pss_cons (ps_expr (pe_bm PySem.F.plainAttrs_list PySem.F.slot_list_extend PySem.F.type_list_extend mt_extend (pv 1) (pa_cons (pe_cw (K := K) (pe_lc (own := [("row", 5)]) (g := gName 5) (tt := tYes) rfl scLn.nd (pi_tup (pe_fld (pv 4) rfl)) (blkOk_by (N := ["module", "lines", "name", "other", "piece", "row"]) (sc := defScope sLines) (by decide +kernel)) (fun _ _ _ _ _ => pg_name (i := 5) scLn.nd rfl (Or.inl rfl)) (fun _ _ _ _ _ => pts_nil)
            (fun _ _ _ _ _ => pe_call GR hr rfl gR kR bR .nil pass0 (pa_cons (pv 5) pa_nil))) ?mono) pa_nil)))
        (pss_one (ps_expr (pe_bm PySem.F.plainAttrs_list PySem.F.slot_list_append PySem.F.type_list_append mt_append (pv 1) (pa_cons pe_str pa_nil)))))))
      (pss_one (ps_ret (pv 1)))))), ?main⟩
    case mono =>
      intro σ H Q Q' k h
      obtain ⟨v, h1, a, C, dx, fs, u, h2, h3, h4, h5, h6, h7⟩ := h
      exact ⟨v, h1, a, C, dx, fs, u, h2, h3, h4, h5, h6, k _ _ h7⟩
    case main =>
      refine ⟨by simp, fun L H1 s1 nL eL => ?_⟩
      -- exports
      refine ⟨.ref m, rfl, m, CM, dx, _, .ref te, rfl, s1 _ _ h1, T.cM, T.nExports, rfl, !(st.ex.map V.str).isEmpty, .inr (.inl ⟨_, SqT.of (s1 _ _ h4), rfl⟩), ?_⟩
      refine ite_join (H1 := H1) (fun H2 => Same H H2 ∧ H2 L = some (.lst (((LE st.ex).map line).map V.str))) (fun H2 pre => ?rest) (fun hc k => ?yes) (fun hc => ?no)
      case no =>
        have e : st.ex = [] := by
          cases h : st.ex with
          | nil => rfl
          | cons x r => rw [h] at hc; exact absurd rfl hc
        refine ⟨s1, ?_⟩
        rw [e]
        exact eL
      case yes =>
        have e : st.ex ≠ [] := fun h => by rw [h] at hc; cases hc
        have hl := lens_le g.ex
        have l1 : TG.SP.length = 1 := by decide +kernel
        refine ⟨.ref L, rfl, .inl ⟨rfl, _, SqL.of eL⟩, rfl, .ref m, rfl, m, CM, dx, _, .ref te, rfl, s1 _ _ h1, T.cM, T.nExports, rfl, TG.SP, te, st.ex, rfl, rfl, .inr (SqT.of (s1 _ _ h4)), by have := g.exn; omega, _, _, rfl, rfl, ?_, L, _, _, rfl, rfl, eL, (by show 0 < 16777216; decide), k _ ⟨fun b o eb => ?_, ?_⟩⟩
        · have h9 := join_le tl_SP st.ex
          have h10 := g.exn
          have : ("export " : Str).length = 7 := by decide +kernel
          rw [this]
          rw [l1] at hl
          exact sl1000 (by omega)
        · rw [upd_ne (ne_of_none eb nL)]
          exact s1 _ _ eb
        · rw [upd_same]
          unfold LE
          rw [if_neg e]
          show some (HO.lst [V.str _]) = some (HO.lst [V.str (line (("export" : Str) :: st.ex))])
          rw [line_ex e]
      case rest =>
        obtain ⟨s2, e2⟩ := pre
        have m2 := s2 _ _ h1
        have lA : avs.length = st.al.length := h6.length.symm
        have lP : pvs.length = st.ps.length := h3.length.symm
        have sum0 : (LE st.ex).length ≤ 1 := by unfold LE; split <;> simp
        have aln := g.aln
        have psn := g.psn
        refine ⟨.ref m, rfl, m, CM, dx, _, .ref ta, rfl, m2, T.cM, T.nAliases, rfl, ta, rfl, ⟨_, SqT.of (s2 _ _ h5)⟩, ?_⟩
        refine for_tup (xs := avs) (fun i σ H' => ∃ y2 y3 y4 y5, σ = [some (.ref m), some (.ref L), y2, y3, y4, y5] ∧ Same H H' ∧ H' L = some (.lst (((LE st.ex ++ LA (st.al.take i)).map line).map V.str))) ⟨_, _, _, _, rfl, s2, by rw [List.take_zero]; show H2 L = some (.lst (((LE st.ex ++ []).map line).map V.str)); rw [List.append_nil]; exact e2⟩ (fun i σ H' _ ⟨_, _, _, _, _, s', _⟩ => SqT.of (s' _ _ h5)) ?turnA ?doneA
        case turnA =>
          rintro i y σ H3 hy ⟨y2, y3, y4, y5, rfl, s3, e3⟩
          obtain ⟨p, hp, q3, rfl, hq⟩ := pair_get h6 hy
          have hq3 := s3 _ _ hq
          have hpl := g.al p (List.mem_of_getElem? hp)
          have hil := (List.getElem?_eq_some_iff.mp hp).1
          have c1 : ("alias " : Str).length = 6 := by decide +kernel
          have c2 : (" " : Str).length = 1 := by decide +kernel
          refine ⟨q3, _, rfl, SqT.of hq3, rfl, _, _, rfl, _, _, rfl, rfl, ?_⟩
          refine ⟨.ref L, rfl, .inl ⟨rfl, _, SqL.of e3⟩, "alias ", rfl, ?_, .str p.1, rfl, .inl ⟨p.1, rfl, sl1000 (by omega), p.1, rfl, ?_, " ", rfl, ?_, .str p.2, rfl, .inl ⟨p.2, rfl, sl1000 (by omega), p.2, rfl, ?_, L, _, _, rfl, rfl, e3, ?_, ?_⟩⟩⟩
          · rw [nil_app]; exact sl1000 (by omega)
          · rw [nil_app, app_len]; exact sl1000 (by omega)
          · rw [nil_app, app_len, app_len]; exact sl1000 (by omega)
          · rw [nil_app, app_len, app_len, app_len]; exact sl1000 (by omega)
          · rw [List.length_map, List.length_map, List.length_append]
            have : (LA (st.al.take i)).length ≤ st.al.length := by
              unfold LA
              rw [List.length_map, List.length_take]
              omega
            have : sizeLine = 16777216 := rfl
            omega
          · refine ⟨_, _, _, _, rfl, fun b o eb => ?_, ?_⟩
            · rw [upd_ne (ne_of_none eb nL)]
              exact s3 _ _ eb
            · rw [upd_same, take_one hp, la_one]
              simp only [List.map_append, List.map_cons, List.map_nil, List.append_assoc]
              rw [line_al, nil_app]
              rfl
        case doneA =>
          rintro σ H3 ⟨y2, y3, y4, y5, rfl, s3, e3⟩
          rw [lA, List.take_length] at e3
          have m3 := s3 _ _ h1
          refine ⟨.ref m, rfl, m, CM, dx, _, .ref tp, rfl, m3, T.cM, T.nPieces, rfl, tp, rfl, ⟨_, SqT.of (s3 _ _ h2)⟩, ?_⟩
          refine for_tup (xs := pvs) (fun i σ H' => ∃ y2 y3 y4 y5, σ = [some (.ref m), some (.ref L), y2, y3, y4, y5] ∧ Same H H' ∧ H' L = some (.lst (((LE st.ex ++ (LA st.al ++ LP (st.ps.take i))).map line).map V.str))) ⟨_, _, _, _, rfl, s3, by rw [List.take_zero]; show H3 L = some (.lst (((LE st.ex ++ (LA st.al ++ [])).map line).map V.str)); rw [List.append_nil]; exact e3⟩ (fun i σ H' _ ⟨_, _, _, _, _, s', _⟩ => SqT.of (s' _ _ h2)) ?turnP ?doneP
          case doneP =>
            rintro σ H4 ⟨y2, y3, y4, y5, rfl, s4, e4⟩
            rw [lP, List.take_length] at e4
            exact ⟨.ref L, rfl, q H4 L s4 nL e4⟩
          case turnP =>
            rintro i y σ H4 hy ⟨y2, y3, y4, y5, rfl, s4, e4⟩
            obtain ⟨p, hp, q4, dxp, t4, vs4, rfl, k1, k2, k3⟩ := pair_get h3 hy
            have k1' := s4 _ _ k1
            have gp := g.ps p (List.mem_of_getElem? hp)
            have lens := pcG_lens gp.1
            have few := gp.1.few
            have hil := (List.getElem?_eq_some_iff.mp hp).1
            have c2 : (" " : Str).length = 1 := by decide +kernel
            have kl := kd_len gp.1
            have lv : vs4.length = p.rows.length := k3.length.symm
            have lLP : (LP (st.ps.take i)).length ≤ 360 := by
              have := lp_len (l := st.ps.take i) fun p hp => (g.ps p (List.mem_of_mem_take hp)).1.few
              rw [List.length_take] at this
              omega
            have lLA : (LA st.al).length ≤ 50 := by unfold LA; rw [List.length_map]; exact aln
            have big : sizeLine = 16777216 := rfl
            refine ⟨.ref L, rfl, .inl ⟨rfl, _, SqL.of e4⟩, .ref q4, rfl, q4, CP, dxp, _, _, rfl, k1', T.cP, T.pKind, rfl, .inl ⟨p.kind, rfl, sl1000 (by omega), p.kind, rfl, ?_, " ", rfl, ?_, .ref q4, rfl, q4, CP, dxp, _, _, rfl, k1', T.cP, T.pName, rfl, .inl ⟨p.name, rfl, sl1000 (by omega), p.name, rfl, ?_, L, _, _, rfl, rfl, e4, ?_, ?_⟩⟩⟩
            · rw [nil_app]; exact sl1000 (by omega)
            · rw [nil_app, app_len]; exact sl1000 (by omega)
            · rw [nil_app, app_len, app_len]; exact sl1000 (by omega)
            · rw [List.length_map, List.length_map, List.length_append, List.length_append]
              omega
            generalize hH5 : upd H4 L _ = H5
            have s5 : Same H H5 := fun b o eb => by rw [← hH5, upd_ne (ne_of_none eb nL)]; exact s4 _ _ eb
            have e5 : H5 L = some (.lst (((LE st.ex ++ (LA st.al ++ LP (st.ps.take i))).map line).map V.str ++ [.str (line [p.kind, p.name])])) := by
              rw [← hH5, upd_same, line2, nil_app]
              rfl
            clear hH5
            have k1' := s5 _ _ k1
            refine ⟨.ref L, rfl, .inl ⟨rfl, _, SqL.of e5⟩, .ref q4, rfl, q4, CP, dxp, _, .ref t4, rfl, k1', T.cP, T.pRows, rfl, t4, vs4, ((p.rows.map rW).map line).map V.str, rfl, SqT.of (s5 _ _ k2), by omega, (by show 5 < 6; decide), by rw [List.length_map, List.length_map, List.length_map, lv], fun j x v τ H6 Q' hx hv s6 ht q' => ?_, fun D H6 s6 nD eD => ?_⟩
            · obtain ⟨r, hr1, hr2⟩ := pair_get k3 hx
              have lr := lens r (List.mem_of_getElem? hr1)
              rw [List.getElem?_map, List.getElem?_map, List.getElem?_map, hr1] at hv
              cases hv
              exact ⟨x, ht, x, r, rfl, hr2.mono (CP := CP) (Fix.of (s5.trans s6)), lr.1, lr.2.1, lr.2.2, fun H7 s7 => q' H7 s7⟩
            · have nLD : L ≠ D := ne_of_none e5 nD
              have e6 := s6 _ _ e5
              refine ⟨L, D, _, _, rfl, rfl, e6, eD, ?_, ?_⟩
              · rw [List.length_append, List.length_map, List.length_map, List.length_append, List.length_append, List.length_map, List.length_map, List.length_map, List.length_singleton]
                omega
              generalize hH7 : upd H6 L _ = H7
              have s7 : Same H H7 := fun b o eb => by rw [← hH7, upd_ne (ne_of_none eb nL)]; exact s6 _ _ (s5 _ _ eb)
              have e7 : H7 L = some (.lst ((((LE st.ex ++ (LA st.al ++ LP (st.ps.take i))).map line).map V.str ++ [.str (line [p.kind, p.name])]) ++ ((p.rows.map rW).map line).map V.str)) := by rw [← hH7, upd_same]
              clear hH7
              refine ⟨.ref L, rfl, .inl ⟨rfl, _, SqL.of e7⟩, L, _, _, rfl, rfl, e7, ?_, ?_⟩
              · rw [List.length_append, List.length_append, List.length_map, List.length_map, List.length_append, List.length_append, List.length_map, List.length_map, List.length_map, List.length_singleton]
                omega
              · refine ⟨_, _, _, _, rfl, fun b o eb => ?_, ?_⟩
                · rw [upd_ne (ne_of_none eb nL)]
                  exact s7 _ _ eb
                · rw [upd_same, take_one hp, lp_one]
                  unfold pcW
                  simp only [List.map_append, List.map_cons, List.map_nil, List.append_assoc, List.cons_append, List.nil_append]
                  rw [line1 ("end" : Str)]
end
end KD

set_option Elab.async false
set_option linter.all false
set_option maxRecDepth 100000
set_option maxHeartbeats 4000000
/-! Pieces and modules: ==, str, in, len. -/
namespace KD
open PySem PySem.Spec PyProof.Rows L2 L2.FK FS TX TG PG
abbrev sModC : Stmt := inClass (top (TX.o + 11)) 1
abbrev sModS : Stmt := inClass (top (TX.o + 11)) 2
abbrev sModE : Stmt := inClass (top (TX.o + 11)) 4
abbrev sPieceL : Stmt := inClass (top (TX.o + 10)) 1
abbrev sPieceE : Stmt := inClass (top (TX.o + 10)) 2
/-! ### data -/
def Ly (n : Nat) (d : PyData) : Prop := d.canLay0 = true ∧ d.depth ≤ n
theorem Ly.sh {n : Nat} {d : PyData} (h : Ly n d) (hn : n ≤ 64) : SeqAt.shaped d = true := by
  unfold SeqAt.shaped
  rw [h.1, decide_eq_true (Nat.le_trans h.2 hn)]
  rfl
theorem Ly.mono {n m : Nat} {d : PyData} (h : Ly n d) (hn : n ≤ m) : Ly m d := ⟨h.1, Nat.le_trans h.2 hn⟩
theorem ly_all {n : Nat} : ∀ {ds : List PyData}, (∀ d ∈ ds, Ly n d) → PyData.canLayAll0 ds = true ∧ PyData.depthAll ds ≤ n
  | [], _ => ⟨by simp only [PyData.canLayAll0], by simp only [PyData.depthAll]; omega⟩
  | d :: r, h => by
    have h1 := h d (List.mem_cons_self ..)
    have h2 := ly_all (ds := r) fun x hx => h x (List.mem_cons_of_mem _ hx)
    refine ⟨by simp only [PyData.canLayAll0, h1.1, h2.1, Bool.and_self], ?_⟩
    simp only [PyData.depthAll]
    have := h1.2
    have := h2.2
    omega
theorem ly_tup {n : Nat} {ds : List PyData} (h : ∀ d ∈ ds, Ly n d) : Ly (n + 1) (.tuple ds) := by
  have := ly_all h
  exact ⟨by simp only [PyData.canLay0, this.1], by simp only [PyData.depth]; omega⟩
theorem ly_lst {n : Nat} {ds : List PyData} (h : ∀ d ∈ ds, Ly n d) : Ly (n + 1) (.list ds) := by
  have := ly_all h
  exact ⟨by simp only [PyData.canLay0, this.1], by simp only [PyData.depth]; omega⟩
theorem ly_str {z : Str} (h : PyData.strOk z = true) : Ly 0 (.str z) := ⟨by simp only [PyData.canLay0, h], by simp only [PyData.depth]; omega⟩
theorem ly_int (i : Int) : Ly 0 (.int i) := ⟨by simp only [PyData.canLay0], by simp only [PyData.depth]; omega⟩
theorem ly_txs {l : List Str} (h : ∀ z ∈ l, PyData.strOk z = true) : ∀ d ∈ l.map PyData.str, Ly 0 d := fun d hd => by
  obtain ⟨z, hz, rfl⟩ := List.mem_map.mp hd
  exact ly_str (h z hz)
theorem ly_rows {p : MP} (g : PcG p) : Ly 3 (rowsD p.rows) := ly_tup fun d hd => by
  obtain ⟨r, hr, rfl⟩ := List.mem_map.mp hd
  exact ⟨(g.rows r hr).lay, (g.rows r hr).deep⟩
theorem eqvAll_dec {α : Type} [DecidableEq α] {f : α → PyData} (h : ∀ a b, PyData.eqv (f a) (f b) = decide (a = b)) : ∀ (as bs : List α), PyData.eqvAll (as.map f) (bs.map f) = decide (as = bs)
  | [], [] => by simp [PyData.eqvAll]
  | [], b :: s => by simp [PyData.eqvAll]
  | a :: r, [] => by simp [PyData.eqvAll]
  | a :: r, b :: s => by
    rw [List.map_cons, List.map_cons]
    simp only [PyData.eqvAll]
    rw [h, eqvAll_dec h r s]
    by_cases e1 : a = b
    · by_cases e2 : r = s
      · simp [e1, e2]
      · simp [e1, e2]
    · simp [e1]
theorem eqv_str (a b : Str) : PyData.eqv (.str a) (.str b) = decide (a = b) := by
  simp only [PyData.eqv]
  by_cases e : a = b
  · subst e
    simp
  · rw [decide_eq_false e]
    exact beq_eq_false_iff_ne.mpr e
def aliD (p : Str × Str) : PyData := .tuple [.str p.1, .str p.2]
theorem eqv_ali (a b : Str × Str) : PyData.eqv (aliD a) (aliD b) = decide (a = b) := by
  unfold aliD
  simp only [PyData.eqv, PyData.eqvAll]
  obtain ⟨a1, a2⟩ := a
  obtain ⟨b1, b2⟩ := b
  dsimp only
  rw [Bool.and_true, Bool.eq_iff_iff]
  simp
theorem eqv_txt (as bs : List Str) : PyData.eqv (.tuple (as.map PyData.str)) (.tuple (bs.map PyData.str)) = decide (as = bs) := by
  simp only [PyData.eqv]
  exact eqvAll_dec eqv_str as bs
theorem eqv_alis (as bs : List (Str × Str)) : PyData.eqv (.tuple (as.map aliD)) (.tuple (bs.map aliD)) = decide (as = bs) := by
  simp only [PyData.eqv]
  exact eqvAll_dec eqv_ali as bs
section
variable {K : PySem.W.Frag} {H : Hp}
theorem dp_flat {v : V} (h : FlatV v) : Dp K H v (dV v) := by
  rcases h with ⟨z, rfl⟩ | ⟨i, rfl, _⟩
  · exact .str z
  · exact .int i
theorem dp_flats : ∀ {xs : List V}, (∀ x ∈ xs, FlatV x) → DpAll K H xs (xs.map dV)
  | [], _ => .nil
  | x :: r, h => .cons (dp_flat (h x (List.mem_cons_self ..))) (dp_flats fun y hy => h y (List.mem_cons_of_mem _ hy))
theorem dp_row {r : MR} {v : V} (h : RowAt H r v) (f : FlatR r) : Dp K H v (rowD r) := by
  cases r with
  | ins xs =>
    obtain ⟨q, rfl, e⟩ := h
    exact .tup (SqT.of e) (dp_flats f)
  | dat d =>
    have h : v = d := h
    rw [h]
    exact dp_flat f
theorem dp_rowl : ∀ {rs : List MR} {vs : List V}, Paired (RowAt H) rs vs → (∀ r ∈ rs, FlatR r) → DpAll K H vs (rs.map rowD)
  | _, _, .nil, _ => .nil
  | _, _, .cons h t, f => .cons (dp_row h (f _ (List.mem_cons_self ..))) (dp_rowl t fun y hy => f y (List.mem_cons_of_mem _ hy))
theorem dp_rows {p : MP} {t : Addr} {vs : List V} (g : PcG p) (h : H t = some (.tup vs)) (k : Paired (RowAt H) p.rows vs) : Dp K H (.ref t) (rowsD p.rows) := .tup (SqT.of h) (dp_rowl k fun r hr => (g.rows r hr).flat)
theorem dp_alis : ∀ {l : List (Str × Str)} {vs : List V}, Paired (AliAt H) l vs → DpAll K H vs (l.map aliD)
  | _, _, .nil => .nil
  | _, _, .cons ⟨q, e, h⟩ t => by
    subst e
    exact .cons (.tup (SqT.of h) (.cons (.str _) (.cons (.str _) .nil))) (dp_alis t)
end
/-- facts of a class that instances are asked for -/
structure TCl (K : PySem.W.Frag) (C : Addr) : Prop where
  cC : PySem.W.findIn K (.ref C) "__class__" = some (some (.builtin "object.__class__"))
  hn : PySem.W.specialIn K (.builtin "object.__class__") "__get__" = some (some (.builtin "getset_descriptor.__get__"))
  ht : PySem.W.takesIn K (.builtin "object.__class__") = some true
  hm : PySem.W.mroIn K C (.type "object") = some true
theorem kit_self {K : PySem.W.Frag} {C : Addr} : PySem.W.kitOne K (.ref C) (.ref C) = some true := by
  unfold PySem.W.kitOne
  rw [if_pos (by simp)]
def eqPc (p p' : MP) : Bool := decide (p.name = p'.name) && (decide (p.kind = p'.kind) && PyData.eqv (rowsD p.rows) (rowsD p'.rows))
theorem eqPc_refl {p : MP} (g : PcG p) : eqPc p p = true := by
  unfold eqPc
  rw [decide_eq_true rfl, decide_eq_true rfl, SeqAt.eqv_refl _ (SeqAt.canLay_of_shaped ((ly_rows g).sh (by decide)))]
  rfl
section
variable {P : Program} {w : World} {K : PySem.W.Frag} {mg : Str → Option Value} {base : Heap} {CM CP : Addr}
/-! ### pieces -/
def spPLen (CP : Addr) : Sp := fun vs H Q _ => ∃ m p, vs = [.ref m] ∧ PieceAt CP H p (.ref m) ∧ Q (.int (p.rows.length : Nat)) H
theorem scPL : FnScope ["self"] ["self"] (defScope sPieceL) := ⟨rfl, rfl, rfl, by decide +kernel, rfl, by decide +kernel, by decide +kernel⟩
theorem ok_plen {f : Addr} {fd : FuncData} (F : Fun K "__len__" "Piece.__len__" sPieceL f fd) (zl : mg "len" = none) (T : TLn K CM CP) : FnOk P w K mg base CX0 1 f fd ["self"] (spPLen CP) := by
  refine F.ok scPL (fun vs H Q E h => ?_) (fun cdv A outer s H vs Q E hr h => ?_)
  · obtain ⟨m, p, rfl, _⟩ := h
    rfl
  · obtain ⟨m, p, rfl, ⟨q0, dx, t, ts, e0, h1, h2, h3⟩, q⟩ := h
    cases e0
    refine ⟨_, pss_one (ps_ret (pe_callB call_len_seq (by rfl) zl PySem.boot_len (pa_cons (pe_fld (pv 0) rfl) pa_nil))), ?_⟩
    refine ⟨.ref m, rfl, m, CP, dx, _, .ref t, rfl, h1, T.cP, T.pRows, rfl, t, ts, rfl, .inr (SqT.of h2), ?_⟩
    rw [← h3.length]
    exact q
def spPEq (CP : Addr) : Sp := fun vs H Q _ => ∃ x y p p', vs = [.ref x, .ref y] ∧ PieceAt CP H p (.ref x) ∧ PieceAt CP H p' (.ref y) ∧ PcG p ∧ PcG p' ∧ Q (.bl (eqPc p p')) H
theorem scPE : FnScope ["self", "other"] ["self", "other"] (defScope sPieceE) := ⟨rfl, rfl, rfl, by decide +kernel, rfl, by decide +kernel, by decide +kernel⟩
theorem ok_peq {f : Addr} {fd : FuncData} (F : Fun K "__eq__" "Piece.__eq__" sPieceE f fd) (T : TLn K CM CP) (C : TCl K CP) (zi : mg "isinstance" = none) (gP : mg "Piece" = some (.ref CP)) : FnOk P w K mg base CX0 1 f fd ["self", "other"] (spPEq CP) := by
  refine F.ok scPE (fun vs H Q E h => ?_) (fun cdv A outer s H vs Q E hr h => ?_)
  · obtain ⟨x, y, p, p', rfl, _⟩ := h
    rfl
  · obtain ⟨x, y, p, p', rfl, ⟨q0, dx, t, ts, e0, h1, h2, h3⟩, ⟨q1, dy, t', ts', e1, k1, k2, k3⟩, g, g', q⟩ := h
    cases e0
    cases e1
    refine ⟨_, pss_one (ps_ret (pe_and (pe_callB (id := "isinstance") (r := rIsi K) call_isi (by rfl) zi b_isi (pa_cons (pv 1) (pa_cons (pe_glob rfl gP (v := .ref CP) rfl) pa_nil)))
      (pe_and (pe_cmpR op_eq (pe_fld (pv 0) rfl) (pe_fld (pv 1) rfl) (nomark _))
      (pe_and (pe_cmpR op_eq (pe_fld (pv 0) rfl) (pe_fld (pv 1) rfl) (nomark _))
      (pe_one (pe_cmpR (op_eqD hr.units) (pe_fld (pv 0) rfl) (pe_fld (pv 1) rfl) (nomark _))))))), ?_⟩
    refine ⟨.ref y, rfl, .ref y, .ref CP, .ref CP, .ref CP, true, rfl, .own CP, .base (.ins k1 T.cP C.cC C.hn C.ht C.hm), kit_self, true, rfl, iteT ?_⟩
    refine ⟨.ref x, rfl, x, CP, dx, _, .str p.name, rfl, h1, T.cP, T.pName, rfl, .ref y, rfl, y, CP, dy, _, .str p'.name, rfl, k1, T.cP, T.pName, rfl, rfl, _, rfl, ?_⟩
    unfold eqPc at q
    rw [str_eq]
    by_cases e1 : p.name = p'.name
    · rw [decide_eq_true e1] at q ⊢
      refine iteT ?_
      refine ⟨.ref x, rfl, x, CP, dx, _, .str p.kind, rfl, h1, T.cP, T.pKind, rfl, .ref y, rfl, y, CP, dy, _, .str p'.kind, rfl, k1, T.cP, T.pKind, rfl, rfl, _, rfl, ?_⟩
      rw [str_eq]
      by_cases e2 : p.kind = p'.kind
      · rw [decide_eq_true e2] at q ⊢
        refine iteT ?_
        exact ⟨.ref x, rfl, x, CP, dx, _, .ref t, rfl, h1, T.cP, T.pRows, rfl, .ref y, rfl, y, CP, dy, _, .ref t', rfl, k1, T.cP, T.pRows, rfl, rowsD p.rows, rowsD p'.rows, dp_rows g h2 h3, dp_rows g' k2 k3, (ly_rows g).sh (by decide), (ly_rows g').sh (by decide), q⟩
      · rw [decide_eq_false e2] at q ⊢
        exact iteF q
    · rw [decide_eq_false e1] at q ⊢
      exact iteF q
/-! ### modules -/
def spHas (CM CP : Addr) : Sp := fun vs H Q _ => ∃ m z st, vs = [.ref m, .str z] ∧ ModR CM CP H st (.ref m) ∧ ∀ H', Same H H' → Q (.bl (hasN st z)) H'
theorem scMC : FnScope ["self", "name"] ["self", "name"] (defScope sModC) := ⟨rfl, rfl, rfl, by decide +kernel, rfl, by decide +kernel, by decide +kernel⟩
theorem ok_has {f : Addr} {fd : FuncData} (F : Fun K "__contains__" "Module.__contains__" sModC f fd) (zi : mg "isinstance" = none) (zs : mg "str" = none) (M : TMd K CM) : FnOk P w K mg base CX0 1 f fd ["self", "name"] (spHas CM CP) := by
  refine F.ok scMC (fun vs H Q E h => ?_) (fun cdv A outer s H vs Q E hr h => ?_)
  · obtain ⟨m, v, st, rfl, _⟩ := h
    rfl
  · obtain ⟨m, z, st, rfl, hm, q⟩ := h
    have hu := hu_of hr
    obtain ⟨m', dx, tp, te, ta, nd, pvs, avs, kvs, e0, h1, h2, h3, h4, h5, h6, h7, h8⟩ := hm
    cases e0
    refine ⟨_, pss_one (ps_ret (pe_and (pe_callB call_isi (by rfl) zi b_isi (pa_cons (pv 1) (pa_cons (pe_bltn rfl zs b_str (v := .ty "str") rfl) pa_nil))) (pe_one (pe_cmp (pc_din hu (pv 1) (pe_fld (pv 0) rfl)) rfl)))), ?_⟩
    have ks : PySem.W.kitOne K (.type "str") (.type "str") = some true := kit_ty (by decide +kernel)
    refine ⟨.str z, rfl, .str z, .ty "str", .type "str", .type "str", true, rfl, .ty "str", .base (.str z), ks, true, rfl, iteT ?_⟩
    refine ⟨.str z, rfl, .ref m, rfl, m, CM, dx, _, .ref nd, rfl, h1, M.cM, M.nNamed, rfl, nd, valV kvs (kS z), rfl, .inl ⟨kvs, kS z, h7, rfl, rfl⟩, ?_⟩
    rw [show (valV kvs (kS z)).isSome = hasN st z from h8 z]
    exact q H (Same.refl H)
def spMStr (CM CP : Addr) : Sp := fun vs H Q _ => ∃ m st, vs = [.ref m] ∧ ModR CM CP H st (.ref m) ∧ StG st ∧ ∀ H', Same H H' → Q (.str (textOf (modW st))) H'
theorem scMS : FnScope ["self"] ["self"] (defScope sModS) := ⟨rfl, rfl, rfl, by decide +kernel, rfl, by decide +kernel, by decide +kernel⟩
theorem line_len2 {ws : List Str} (h : ∀ z ∈ ws, z.length ≤ 20) : (line ws).length ≤ 21 * ws.length := by
  have h1 := join_le tl_SP ws
  have h2 := sum_le (fun z : Str => z.length) 20 h
  show (Txt.join TG.SP ws).length ≤ _
  omega
theorem modW_lines {st : ST} (g : StG st) : (∀ ws ∈ modW st, (line ws).length ≤ 1100) ∧ (modW st).length ≤ 500 := by
  have exn := g.exn
  have aln := g.aln
  have psn := g.psn
  have lp := lp_len (l := st.ps) fun p hp => (g.ps p hp).1.few
  refine ⟨fun ws hws => ?_, ?_⟩
  · rcases List.mem_append.mp hws with h | h
    · unfold LE at h
      by_cases e : st.ex = []
      · rw [if_pos e] at h
        cases h
      · rw [if_neg e] at h
        rw [List.mem_singleton.mp h]
        have := line_len2 (ws := ("export" : Str) :: st.ex) fun z hz => by
          rcases List.mem_cons.mp hz with e | hz
          · rw [e]; decide +kernel
          · exact g.ex z hz
        rw [List.length_cons] at this
        omega
    · rcases List.mem_append.mp h with h | h
      · obtain ⟨p, hp, rfl⟩ := List.mem_map.mp h
        have hpl := g.al p hp
        have := line_len2 (ws := [("alias" : Str), p.1, p.2]) fun z hz => by
          simp only [List.mem_cons, List.not_mem_nil, or_false] at hz
          rcases hz with rfl | rfl | rfl
          · decide +kernel
          · exact hpl.1
          · exact hpl.2
        simp at this
        omega
      · obtain ⟨L, hL, h⟩ := List.mem_flatten.mp h
        obtain ⟨p, hp, rfl⟩ := List.mem_map.mp hL
        have gp := g.ps p hp
        unfold pcW at h
        rcases List.mem_cons.mp h with e | h
        · rw [e]
          have := line_len2 (ws := [p.kind, p.name]) fun z hz => by
            simp only [List.mem_cons, List.not_mem_nil, or_false] at hz
            rcases hz with rfl | rfl
            · have := kd_len gp.1; omega
            · exact gp.2
          simp at this
          omega
        · rcases List.mem_append.mp h with h | h
          · obtain ⟨r, hr, rfl⟩ := List.mem_map.mp h
            have lr := pcG_lens gp.1 r hr
            have := line_len2 lr.2.1
            omega
          · rw [List.mem_singleton.mp h, line1]
            decide +kernel
  · unfold modW
    rw [List.length_append, List.length_append]
    have : (LE st.ex).length ≤ 1 := by unfold LE; split <;> simp
    have : (LA st.al).length ≤ 50 := by unfold LA; rw [List.length_map]; exact aln
    omega
theorem ok_mstr {f fL : Addr} {fd fdL : FuncData} (F : Fun K "__str__" "Module.__str__" sModS f fd) (GL : FnOk P w K mg base CX0 2 fL fdL ["module"] (spLines CM CP)) (bL : Binds K fdL ["module"] []) (gL : mg "module_lines" = some (.ref fL)) (kL : PySem.W.keepIn K (.ref fL) = true) : FnOk P w K mg base CX0 3 f fd ["self"] (spMStr CM CP) := by
  refine F.ok scMS (fun vs H Q E h => ?_) (fun cdv A outer s H vs Q E hr h => ?_)
  · obtain ⟨m, st, rfl, _⟩ := h
    rfl
  · obtain ⟨m, st, rfl, hm, g, q⟩ := h
    refine ⟨_, pss_one (ps_ret (pe_bm PySem.F.plainAttrs_str PySem.F.slot_str_join PySem.F.type_str_join mt_join pe_str (pa_cons (pe_call GL hr rfl gL kL bL .nil pass0 (pa_cons (pv 0) pa_nil)) pa_nil))), ?_⟩
    refine ⟨rfl, .ref m, rfl, m, st, rfl, hm, g, fun H' p s' n' e' => ⟨TG.NL, p, (modW st).map line, rfl, rfl, .inl (SqL.of e'), ?_, q H' s'⟩⟩
    obtain ⟨w1, w2⟩ := modW_lines g
    have := sum_le (fun z : Str => z.length) 1100 (xs := (modW st).map line) fun z hz => by
      obtain ⟨ws, hws, rfl⟩ := List.mem_map.mp hz
      exact w1 ws hws
    have nl : TG.NL.length = 1 := by decide +kernel
    rw [nl]
    rw [List.length_map] at this ⊢
    omega
def RPc (CP : Addr) (a b : Addr) (H : Hp) : Prop := ∃ p, PieceAt CP H p (.ref a) ∧ PieceAt CP H p (.ref b) ∧ PcG p
def eqMo (st st' : ST) : Bool := (st.ps.length == st'.ps.length) && (decide (st.ex = st'.ex) && decide (st.al = st'.al))
/-- what data a module must hold -/
structure StD (st : ST) : Prop where
  ex : ∀ z ∈ st.ex, PyData.strOk z = true
  al : ∀ p ∈ st.al, PyData.strOk p.1 = true ∧ PyData.strOk p.2 = true
  ps : ∀ p ∈ st.ps, PcG p
def spMEq (CM CP : Addr) : Sp := fun vs H Q _ => ∃ x y st st', vs = [.ref x, .ref y] ∧ ModR CM CP H st (.ref x) ∧ ModR CM CP H st' (.ref y) ∧ StD st ∧ StD st' ∧ (∀ (i : Nat) p p', st.ps[i]? = some p → st'.ps[i]? = some p' → p = p') ∧ ∀ H', Same H H' → Q (.bl (eqMo st st')) H'
theorem scME : FnScope ["self", "other"] ["self", "other"] (defScope sModE) := ⟨rfl, rfl, rfl, by decide +kernel, rfl, by decide +kernel, by decide +kernel⟩
theorem ok_meq {f fE : Addr} {fd fdE : FuncData} (F : Fun K "__eq__" "Module.__eq__" sModE f fd) (T : TLn K CM CP) (C : TCl K CM) (zi : mg "isinstance" = none) (gM : mg "Module" = some (.ref CM))
    (GE : FnOk P w K mg base CX0 1 fE fdE ["self", "other"] (spPEq CP)) (bE : Binds K fdE ["self", "other"] []) (sE : PySem.W.findIn K (.ref CP) "__eq__" = some (some (.ref fE))) (iE : PySem.W.isFn K (.ref fE) = true) : FnOk P w K mg base CX0 3 f fd ["self", "other"] (spMEq CM CP) := by
  refine F.ok scME (fun vs H Q E h => ?_) (fun cdv A outer s H vs Q E hr h => ?_)
  · obtain ⟨x, y, st, st', rfl, _⟩ := h
    rfl
  · obtain ⟨x, y, st, st', rfl, hx, hy, g, g', pre, q⟩ := h
    obtain ⟨m', dx, tp, te, ta, nd, pvs, avs, kvs, e0, h1, h2, h3, h4, h5, h6, _⟩ := hx
    cases e0
    obtain ⟨m', dy, tp', te', ta', nd', pvs', avs', kvs', e0, k1, k2, k3, k4, k5, k6, _⟩ := hy
    cases e0
    have monR : ∀ a b H H', Ext H H' → RPc CP a b H → RPc CP a b H' := fun a b H H' e ⟨p, r1, r2, r3⟩ => ⟨p, r1.mono (CP := CP) (Fix.of e), r2.mono (CP := CP) (Fix.of e), r3⟩
    have GQ : FnOk P w K mg base CX0 1 fE fdE ["self", "other"] (spEq (RPc CP)) := GE.imp fun vs H Q E ⟨a, b, e, ⟨p, r1, r2, r3⟩, q⟩ => ⟨a, b, p, p, e, r1, r2, r3, r3, by rw [eqPc_refl r3]; exact q H Ext.rfl'⟩
    refine ⟨_, pss_one (ps_ret (pe_and (pe_callB (id := "isinstance") (r := rIsi K) call_isi (by rfl) zi b_isi (pa_cons (pv 1) (pa_cons (pe_glob rfl gM (v := .ref CM) rfl) pa_nil)))
      (pe_and (pe_cmpR (op_eqM (mon_ins monR) (eqG_ins GQ sE iE bE pass0) hr) (pe_fld (pv 0) rfl) (pe_fld (pv 1) rfl) (nomark _))
      (pe_and (pe_cmpR (op_eqD hr.units) (pe_fld (pv 0) rfl) (pe_fld (pv 1) rfl) (nomark _))
      (pe_one (pe_cmpR (op_eqD hr.units) (pe_fld (pv 0) rfl) (pe_fld (pv 1) rfl) (nomark _))))))), ?_⟩
    refine ⟨.ref y, rfl, .ref y, .ref CM, .ref CM, .ref CM, true, rfl, .own CM, .base (.ins k1 T.cM C.cC C.hn C.ht C.hm), kit_self, true, rfl, iteT ?_⟩
    have lp : pvs.length = st.ps.length := h3.length.symm
    have lp' : pvs'.length = st'.ps.length := k3.length.symm
    refine ⟨.ref x, rfl, x, CM, dx, _, .ref tp, rfl, h1, T.cM, T.nPieces, rfl, .ref y, rfl, y, CM, dy, _, .ref tp', rfl, k1, T.cM, T.nPieces, rfl, tp, tp', pvs, pvs', rfl, rfl, SqT.of h2, SqT.of k2, fun i u v hu hv => ?_, fun H1 e1 => ⟨_, rfl, ?_⟩⟩
    · obtain ⟨p, hp, up⟩ := pair_get h3 hu
      obtain ⟨p', hp', vp⟩ := pair_get k3 hv
      have e := pre i p p' hp hp'
      subst e
      obtain ⟨q1, dx1, t1, vs1, rfl, z1, z2, z3⟩ := up
      obtain ⟨q2, dx2, t2, vs2, rfl, y1, y2, y3⟩ := vp
      exact ⟨q1, q2, dx1, dx2, _, _, rfl, rfl, z1, y1, p, ⟨q1, dx1, t1, vs1, rfl, z1, z2, z3⟩, ⟨q2, dx2, t2, vs2, rfl, y1, y2, y3⟩, g.ps p (List.mem_of_getElem? hp)⟩
    rw [lp, lp']
    have q' : ∀ H' b, Same H H' → eqMo st st' = b → Q (.bl b) H' := fun H' b s e => by rw [← e]; exact q H' s
    have s1 : Same H H1 := e1
    cases c1 : (st.ps.length == st'.ps.length) with
    | false =>
      refine iteF (q' H1 false s1 ?_)
      unfold eqMo
      rw [c1]
      rfl
    | true =>
      refine iteT ?_
      refine ⟨.ref x, rfl, x, CM, dx, _, .ref te, rfl, s1 _ _ h1, T.cM, T.nExports, rfl, .ref y, rfl, y, CM, dy, _, .ref te', rfl, s1 _ _ k1, T.cM, T.nExports, rfl, .tuple (st.ex.map PyData.str), .tuple (st'.ex.map PyData.str), .tup (SqT.of (s1 _ _ h4)) (dp_txs _), .tup (SqT.of (s1 _ _ k4)) (dp_txs _), (ly_tup (ly_txs g.ex)).sh (by decide), (ly_tup (ly_txs g'.ex)).sh (by decide), _, rfl, ?_⟩
      rw [eqv_txt]
      by_cases c2 : st.ex = st'.ex
      · rw [decide_eq_true c2]
        refine iteT ?_
        have lya : ∀ {l : List (Str × Str)}, (∀ p ∈ l, PyData.strOk p.1 = true ∧ PyData.strOk p.2 = true) → ∀ d ∈ l.map aliD, Ly 1 d := fun {l} h d hd => by
          obtain ⟨p, hp, rfl⟩ := List.mem_map.mp hd
          refine ly_tup fun d hd => ?_
          simp only [List.mem_cons, List.not_mem_nil, or_false] at hd
          rcases hd with rfl | rfl
          · exact ly_str (h p hp).1
          · exact ly_str (h p hp).2
        refine ⟨.ref x, rfl, x, CM, dx, _, .ref ta, rfl, s1 _ _ h1, T.cM, T.nAliases, rfl, .ref y, rfl, y, CM, dy, _, .ref ta', rfl, s1 _ _ k1, T.cM, T.nAliases, rfl, .tuple (st.al.map aliD), .tuple (st'.al.map aliD), .tup (SqT.of (s1 _ _ h5)) (dp_alis (pair_mono (fun _ _ h => h.mono (CP := CP) (Fix.of s1)) h6)), .tup (SqT.of (s1 _ _ k5)) (dp_alis (pair_mono (fun _ _ h => h.mono (CP := CP) (Fix.of s1)) k6)), (ly_tup (lya g.al)).sh (by decide), (ly_tup (lya g'.al)).sh (by decide), ?_⟩
        rw [eqv_alis]
        refine q' H1 _ s1 ?_
        unfold eqMo
        rw [c1, decide_eq_true c2]
        rfl
      · rw [decide_eq_false c2]
        refine iteF (q' H1 false s1 ?_)
        unfold eqMo
        rw [c1, decide_eq_false c2]
        rfl
end
end KD

set_option Elab.async false
set_option linter.all false
set_option maxRecDepth 100000
set_option maxHeartbeats 4000000
/-! The defs of this law's text that draw. -/
namespace TopL
open PySem PySem.Spec PyProof.Rows L2
abbrev sPool : Stmt := TX.top 28
abbrev sTake : Stmt := TX.top 29
end TopL

set_option Elab.async false
set_option linter.all false
set_option maxRecDepth 100000
set_option maxHeartbeats 4000000
/-! What laws by cells draw with. -/
namespace LP
open PySem PySem.Spec PyProof.Rows L2 FS
/-- a pool of numbers -/
def PAt (p : Addr) (H : Hp) : Prop := ∃ g s : Int, H p = some (.lst [.int g, .int s]) ∧ 0 ≤ g ∧ 0 ≤ s ∧ s < 2147483647
theorem PAt.mono {p : Addr} {H H' : Hp} (h : PAt p H) (s : Same H H') : PAt p H' := by
  obtain ⟨g, t, e, l⟩ := h
  exact ⟨g, t, s _ _ e, l⟩
section
variable {P : Program} {w : World} {K : PySem.W.Frag} {mg : Str → Option Value} {base : Heap}
theorem b01 (c : Bool) : 0 ≤ (if c = true then (1 : Int) else 0) := by cases c <;> decide
theorem b01w (c : Bool) : -2 ^ 64 < (if c = true then (1 : Int) else 0) ∧ (if c = true then (1 : Int) else 0) < 2 ^ 64 := by cases c <;> decide
theorem sq5 (k : Nat) (h : k < 6) : 0 ≤ 104729 * (k : Int) * (k : Int) ∧ 104729 * (k : Int) * (k : Int) ≤ 3000000 := by
  have : k = 0 ∨ k = 1 ∨ k = 2 ∨ k = 3 ∨ k = 4 ∨ k = 5 := by omega
  rcases this with rfl | rfl | rfl | rfl | rfl | rfl <;> decide
/-! ### _law_pool -/
def spPool (K : PySem.W.Frag) : Sp := fun vs H Q _ => ∃ (a : Addr) (ns : List Int) (k : Nat), vs = [.ref a, .int k] ∧ SqL K H a (ns.map V.int) ∧ k < 6 ∧ ns.length ≤ 63 ∧
  ∀ H' p, Same H H' → H p = none → PAt p H' → Q (.ref p) H'
theorem scP : FnScope ["_law_script", "_law_k", "_law_cell", "_law_great", "_law_seed"] ["_law_script", "_law_k"] (defScope TopL.sPool) := ⟨rfl, rfl, rfl, by decide +kernel, rfl, by decide +kernel, by decide +kernel⟩
theorem ok_pool {f : Addr} {fd : FuncData} {k : Nat} (F : Fun K "_law_pool" "_law_pool" TopL.sPool f fd) (ml : mg "len" = none) (ma : mg "abs" = none) (mi : mg "int" = none) : FnOk P w K mg base CX0 (k + 1) f fd ["_law_script", "_law_k"] (spPool K) := by
  refine F.ok scP (fun vs H Q E h => ?_) (fun cdv A outer s H vs Q E hr h => ?_)
  · obtain ⟨a, ns, k, rfl, _⟩ := h
    rfl
  · obtain ⟨a, ns, k, rfl, hS, hk, hlen, q0⟩ := h
    have q : ∀ H' p (g s : Int), Same H H' → H p = none → H' p = some (.lst [.int g, .int s]) → 0 ≤ g → 0 ≤ s → s < 2147483647 → Q (.ref p) H' := fun H' p g s e n h a b c => q0 H' p e n ⟨g, s, h, a, b, c⟩
    refine ⟨_, pss_cons (ps_set (i := 2) scP.nd rfl (.inl rfl) pe_int)
      (pss_cons (ps_if (pt_cmpR op_lt (pv 1) (pe_callB call_len_seq (by rfl) ml PySem.boot_len (pa_cons (pv 0) pa_nil)) (nomark _))
          (pss_one (ps_set (i := 2) scP.nd rfl (.inl rfl) (pe_ix ix_list (pv 0) (pv 1) (fun _ _ => rfl)))) pss_nil)
      (pss_cons (ps_set (i := 3) scP.nd rfl (.inl rfl) (pe_callB call_abs (by rfl) ma (by decide +kernel) (pa_cons (pv 2) pa_nil)))
      (pss_cons (ps_set (i := 4) scP.nd rfl (.inl rfl) (pe_op op_mod (pe_op op_pow (pe_op op_add (pe_op op_add (pe_op op_add (pe_op op_mod (pv 2) pe_int) (pe_op op_mul (pe_op op_mul pe_int (pv 1)) (pv 1))) (pe_op op_mul pe_int (pv 1))) pe_int) pe_int) pe_int))
      (pss_one (ps_ret (pe_lst (pa_cons (pe_op op_mul (pv 3) (pe_callTy call_int1 (by rfl) mi (by decide +kernel) (pa_cons (pe_cmpR op_ge (pv 3) (pe_op op_pow pe_int pe_int) (nomark _)) pa_nil)))
        (pa_cons (pv 4) pa_nil)))))))), ?_⟩
    refine ⟨_, rfl, _, rfl, a, _, rfl, .inl hS, _, _, rfl, rfl, _, rfl, ?_⟩
    have hk0 : (0 : Int) ≤ (k : Int) := Int.natCast_nonneg _
    have hk3 : (k : Int) < 6 := by omega
    have hkk := sq5 k hk
    refine ite2 (fun hc => ?_) (fun _ => ?_)
    · have hk2 : k < ns.length := by
        have h1 := of_decide_eq_true hc
        rw [List.length_map] at h1
        omega
      have g : (ns.map V.int)[k]? = some (V.int ns[k]) := by
        rw [List.getElem?_map, List.getElem?_eq_getElem hk2]
        rfl
      refine ⟨_, rfl, _, rfl, a, _, _, _, rfl, rfl, hS, atI_nat g, ?_⟩
      have hm : 0 ≤ ns[k] % 2147483629 ∧ ns[k] % 2147483629 < 2147483629 := ⟨Int.emod_nonneg _ (by decide), Int.emod_lt_of_pos _ (by decide)⟩
      refine ⟨_, rfl, ns[k], rfl, ?_⟩
      refine ⟨_, rfl, _, _, rfl, rfl, (show (0 : Int) < 2147483629 by decide), _, rfl, _, _, rfl, rfl, .inl ⟨by decide, by decide⟩, _, rfl, _, _, rfl, rfl, .inr ⟨by omega, by omega⟩, _, _, rfl, rfl, _, rfl, _, _, rfl, rfl, .inl ⟨by decide, by decide⟩, _, _, rfl, rfl, _, _, rfl, rfl, _, _, rfl, rfl, ⟨by decide, by decide, ?_⟩, _, _, rfl, rfl, (show (0 : Int) < 2147483647 by decide), ?_⟩
      · omega
      refine ⟨_, rfl, _, rfl, _, _, rfl, rfl, ⟨by decide, by decide, by decide⟩, _, _, rfl, rfl, .inr ⟨_, rfl, _, _, rfl, rfl, .inr ⟨?_, ?_⟩, _, rfl, (by show 2 ≤ sizeLine; decide), fun p hp => ?_⟩⟩
      · exact (b01w _).1
      · exact (b01w _).2
      refine q _ p _ _ (same_new hp) hp upd_same ?_ (Int.emod_nonneg _ (by decide)) (Int.emod_lt_of_pos _ (by decide))
      refine Int.mul_nonneg ?_ ?_
      · split <;> omega
      · exact b01 _
    · have hm : 0 ≤ (0 : Int) % 2147483629 ∧ (0 : Int) % 2147483629 < 2147483629 := ⟨Int.emod_nonneg _ (by decide), Int.emod_lt_of_pos _ (by decide)⟩
      refine ⟨_, rfl, (0 : Int), rfl, ?_⟩
      refine ⟨_, rfl, _, _, rfl, rfl, (show (0 : Int) < 2147483629 by decide), _, rfl, _, _, rfl, rfl, .inl ⟨by decide, by decide⟩, _, rfl, _, _, rfl, rfl, .inr ⟨by omega, by omega⟩, _, _, rfl, rfl, _, rfl, _, _, rfl, rfl, .inl ⟨by decide, by decide⟩, _, _, rfl, rfl, _, _, rfl, rfl, _, _, rfl, rfl, ⟨by decide, by decide, ?_⟩, _, _, rfl, rfl, (show (0 : Int) < 2147483647 by decide), ?_⟩
      · omega
      refine ⟨_, rfl, _, rfl, _, _, rfl, rfl, ⟨by decide, by decide, by decide⟩, _, _, rfl, rfl, .inr ⟨_, rfl, _, _, rfl, rfl, .inr ⟨?_, ?_⟩, _, rfl, (by show 2 ≤ sizeLine; decide), fun p hp => ?_⟩⟩
      · exact (b01w _).1
      · exact (b01w _).2
      refine q _ p _ _ (same_new hp) hp upd_same ?_ (Int.emod_nonneg _ (by decide)) (Int.emod_lt_of_pos _ (by decide))
      refine Int.mul_nonneg ?_ ?_
      · split <;> omega
      · exact b01 _
/-! ### _law_take -/
def spTake : Sp := fun vs H Q _ => ∃ (p : Addr) (m : Nat), vs = [.ref p, .int m] ∧ 0 < m ∧ m ≤ 1000 ∧ PAt p H ∧ ∀ H' (r : Nat), Off p H H' → PAt p H' → r < m → Q (.int r) H'
theorem scT : FnScope ["_law_pool_here", "_law_many", "_law_found"] ["_law_pool_here", "_law_many"] (defScope TopL.sTake) := ⟨rfl, rfl, rfl, by decide +kernel, rfl, by decide +kernel, by decide +kernel⟩
theorem toN {x : Int} {m : Nat} (h : 0 ≤ x) (h2 : x < (m : Int)) : ∃ r : Nat, x = (r : Int) ∧ r < m := ⟨x.toNat, by omega, by omega⟩
theorem ok_take {f : Addr} {fd : FuncData} {k : Nat} (F : Fun K "_law_take" "_law_take" TopL.sTake f fd) : FnOk P w K mg base CX0 (k + 1) f fd ["_law_pool_here", "_law_many"] spTake := by
  refine F.ok scT (fun vs H Q E h => ?_) (fun cdv A outer s H vs Q E hr h => ?_)
  · obtain ⟨a, m, rfl, _⟩ := h
    rfl
  · obtain ⟨p, m, rfl, hm, hm2, ⟨g, s, hp, hg, hs, hs2⟩, q0⟩ := h
    have hmi : (0 : Int) < (m : Int) := by omega
    have hmn : (m : Int) ≠ 0 := by omega
    have q : ∀ (H2 : Hp) (g' s' : Int) (r : Nat), Off p H H2 → H2 p = some (.lst [.int g', .int s']) → 0 ≤ g' → 0 ≤ s' → s' < 2147483647 → r < m → Q (.int r) H2 := fun H2 g' s' r o e a b c d => q0 H2 r o ⟨g', s', e, a, b, c⟩ d
    refine ⟨_, pss_cons (ps_if (pt_cmpR op_gt (pe_ix ix_list (pv 0) pe_int (fun _ _ => rfl)) pe_int (nomark _))
        (pss_cons (ps_set (i := 2) scT.nd rfl (.inl rfl) (pe_op op_mod (pe_ix ix_list (pv 0) pe_int (fun _ _ => rfl)) (pv 1)))
          (pss_cons (ps_asg (pe_op op_fdiv (pe_ix ix_list (pv 0) pe_int (fun _ _ => rfl)) (pv 1)) (pg_sub (pv 0) pe_int set_list (fun _ => rfl)))
          (pss_one (ps_ret (pv 2))))) pss_nil)
      (pss_cons (ps_asg (pe_op op_mod (pe_op op_add (pe_op op_mul (pe_ix ix_list (pv 0) pe_int (fun _ _ => rfl)) pe_int) pe_int) pe_int) (pg_sub (pv 0) pe_int set_list (fun _ => rfl)))
      (pss_one (ps_ret (pe_op op_mod (pe_op op_fdiv (pe_op op_mod (pe_op op_mul (pe_ix ix_list (pv 0) pe_int (fun _ _ => rfl)) (pe_ix ix_list (pv 0) pe_int (fun _ _ => rfl))) pe_int) pe_int) (pv 1))))), ?_⟩
    have e0 : atI [V.int g, V.int s] 0 = some (.int g) := rfl
    have e1 : atI [V.int g, V.int s] 1 = some (.int s) := rfl
    have hL : SqL K H p [.int g, .int s] := SqL.of hp
    refine ⟨_, rfl, p, _, 0, _, rfl, rfl, hL, e0, _, _, rfl, rfl, _, rfl, ?_⟩
    refine ite2 (fun hc => ?_) (fun hc => ?_)
    · refine ⟨_, rfl, p, _, 0, _, rfl, rfl, hL, e0, _, rfl, _, _, rfl, rfl, hmi, ?_⟩
      refine ⟨_, rfl, p, _, 0, _, rfl, rfl, hL, e0, _, rfl, _, _, rfl, rfl, ⟨hmi, by omega⟩, ?_⟩
      refine ⟨_, rfl, p, _, 0, 0, rfl, rfl, hp, rfl, ?_⟩
      obtain ⟨r, er, hr11⟩ := toN (Int.emod_nonneg g hmn) (Int.emod_lt_of_pos g hmi)
      refine ⟨_, rfl, ?_⟩
      have hq := q _ (g / (m : Int)) s r Off.put upd_same (Int.ediv_nonneg hg (by omega)) hs hs2 hr11
      rw [← er] at hq
      exact hq
    · refine ⟨_, rfl, p, _, 1, _, rfl, rfl, hL, e1, _, _, rfl, rfl, .inl ⟨by omega, by omega⟩, _, _, rfl, rfl, _, _, rfl, rfl, (show (0 : Int) < 2147483647 by decide), ?_⟩
      refine ⟨_, rfl, p, _, 1, 1, rfl, rfl, hp, rfl, ?_⟩
      have hz0 : 0 ≤ (s * 48271 + 11) % 2147483647 := Int.emod_nonneg _ (by decide)
      have hz1 : (s * 48271 + 11) % 2147483647 < 2147483647 := Int.emod_lt_of_pos _ (by decide)
      have hL2 : SqL K (upd H p (.lst ([V.int g, V.int s].set 1 (.int ((s * 48271 + 11) % 2147483647))))) p [.int g, .int ((s * 48271 + 11) % 2147483647)] := SqL.of upd_same
      have e2 : atI [V.int g, V.int ((s * 48271 + 11) % 2147483647)] 1 = some (.int ((s * 48271 + 11) % 2147483647)) := rfl
      refine ⟨_, rfl, p, _, 1, _, rfl, rfl, hL2, e2, _, rfl, p, _, 1, _, rfl, rfl, hL2, e2, _, _, rfl, rfl, .inl ⟨by omega, by omega⟩, _, _, rfl, rfl, (show (0 : Int) < 2147483629 by decide), _, _, rfl, rfl, ⟨by decide, by decide⟩, _, rfl, _, _, rfl, rfl, hmi, ?_⟩
      obtain ⟨r, er, hr11⟩ := toN (Int.emod_nonneg (((s * 48271 + 11) % 2147483647) * ((s * 48271 + 11) % 2147483647) % 2147483629 / 64) hmn) (Int.emod_lt_of_pos (((s * 48271 + 11) % 2147483647) * ((s * 48271 + 11) % 2147483647) % 2147483629 / 64) hmi)
      have hq := q _ g ((s * 48271 + 11) % 2147483647) r Off.put upd_same hg hz0 hz1 hr11
      rw [← er] at hq
      exact hq
end
end LP

set_option Elab.async false
set_option linter.all false
set_option maxRecDepth 100000
set_option maxHeartbeats 4000000
/-! What the law draws: instructions, pieces; pieces shown. -/
namespace KD
open PySem PySem.Spec PyProof.Rows L2 L2.FK FS TX TG PG
abbrev sIns : Stmt := top 30
abbrev sPie : Stmt := top 31
abbrev sShown : Stmt := top 32
theorem a4_at : ∀ r : Nat, r < 4 → ∃ c, ("abcd" : Str).cps[r]? = some c ∧ (⟨#[c]⟩ : Str) ∈ A4 := by
  intro r hr
  match r, hr with
  | 0, _ => exact ⟨97, by decide +kernel, by decide +kernel⟩
  | 1, _ => exact ⟨98, by decide +kernel, by decide +kernel⟩
  | 2, _ => exact ⟨99, by decide +kernel, by decide +kernel⟩
  | 3, _ => exact ⟨100, by decide +kernel, by decide +kernel⟩
theorem fix_off {CP p : Addr} {H H' : Hp} (o : Off p H H') (hp : LP.PAt p H) : Fix CP H H' := by
  obtain ⟨g, s, e, _⟩ := hp
  exact ⟨fun q xs h => o q _ (ne_of h e (by intro z; cases z)) h, fun q dx fs h => o q _ (ne_of h e (by intro z; cases z)) h⟩
theorem snocT {H H' : Hp} {rs : List MR} {vs : List V} {xs : List V} {t : Addr} (P : Paired (RowAt H) rs vs) (s : Same H H') (e : H' t = some (.tup xs)) : Paired (RowAt H') (rs ++ [.ins xs]) (vs ++ [.ref t]) :=
  pair_snoc (pair_mono (fun _ _ h => h.mono (CP := 0) (Fix.of s)) P) ⟨t, rfl, e⟩
theorem pair_take {α : Type} {R : α → V → Prop} {as : List α} {vs : List V} (h : Paired R as vs) {i : Nat} {a : α} (e : as[i]? = some a) : ∃ v, vs[i]? = some v ∧ R a v := by
  have l := h.length
  have hi := (List.getElem?_eq_some_iff.mp e).1
  obtain ⟨x, hx, r⟩ := pair_get h (List.getElem?_eq_getElem (show i < vs.length by omega))
  rw [e] at hx
  cases hx
  exact ⟨_, List.getElem?_eq_getElem (show i < vs.length by omega), r⟩
section
variable {P : Program} {w : World} {K : PySem.W.Frag} {mg : Str → Option Value} {base : Heap} {CM CP : Addr}
/-! ### _law_instruction -/
def spIns : Sp := fun vs H Q _ => ∃ (p : Addr) (n : Nat), vs = [.ref p, .int n] ∧ n ≤ 16 ∧ LP.PAt p H ∧ ∀ H' v r, Off p H H' → LP.PAt p H' → RowAt H' r v → RowG "func" n r → Q v H'
theorem scI : FnScope ["_law_pool_here", "_law_many", "_law_one", "_law_other", "_law_name", "_law_number", "_law_target", "_law_found"] ["_law_pool_here", "_law_many"] (defScope sIns) := ⟨rfl, rfl, rfl, by decide +kernel, rfl, by decide +kernel, by decide +kernel⟩
theorem ok_ins {f fT : Addr} {fd fdT : FuncData} (F : Fun K "_law_instruction" "_law_instruction" sIns f fd)
    (GT : FnOk P w K mg base CX0 1 fT fdT ["_law_pool_here", "_law_many"] LP.spTake) (bT : Binds K fdT ["_law_pool_here", "_law_many"] []) (gT : mg "_law_take" = some (.ref fT)) (kT : PySem.W.keepIn K (.ref fT) = true) : FnOk P w K mg base CX0 2 f fd ["_law_pool_here", "_law_many"] spIns := by
  refine F.ok scI (fun vs H Q E h => ?_) (fun cdv A outer s H vs Q E hr h => ?_)
  · obtain ⟨p, n, rfl, _⟩ := h
    rfl
  · obtain ⟨p, n, rfl, hn, hp, q⟩ := h
    refine ⟨_, pss_cons (ps_par (i := 2) (j := 3) rfl scI.nd rfl rfl (by decide) rfl rfl (pa_cons (pe_item_str pe_str (pe_call GT hr rfl gT kT bT .nil pass0 (pa_cons (pv 0) (pa_cons pe_int pa_nil))) (fun _ _ => rfl)) (pa_cons (pe_item_str pe_str (pe_call GT hr rfl gT kT bT .nil pass0 (pa_cons (pv 0) (pa_cons pe_int pa_nil))) (fun _ _ => rfl)) pa_nil)) (by rfl))
      (pss_cons (ps_par (i := 4) (j := 5) rfl scI.nd rfl rfl (by decide) rfl rfl (pa_cons (pe_ix (r := rIxL K) ix_list (pe_lstS (pa_cons pe_str (pa_cons pe_str (pa_cons pe_str (pa_cons pe_str pa_nil))))) (pe_call GT hr rfl gT kT bT .nil pass0 (pa_cons (pv 0) (pa_cons pe_int pa_nil))) (fun _ _ => rfl))
          (pa_cons (pe_ix (r := rIxL K) ix_list (pe_lstS (pa_cons pe_int (pa_cons pe_int (pa_cons pe_int (pa_cons pe_int pa_nil))))) (pe_call GT hr rfl gT kT bT .nil pass0 (pa_cons (pv 0) (pa_cons pe_int pa_nil))) (fun _ _ => rfl)) pa_nil)) (by rfl))
      (pss_cons (ps_set (i := 6) scI.nd rfl (.inl rfl) (pe_call GT hr rfl gT kT bT .nil pass0 (pa_cons (pv 0) (pa_cons (pe_op op_add (pv 1) pe_int) pa_nil))))
      (pss_cons (ps_set (i := 7) scI.nd rfl (.inl rfl) (pe_lstS (pa_cons (pe_tupS (pa_cons pe_str (pa_cons (pv 4) pa_nil))) (pa_cons (pe_tupS (pa_cons pe_str (pa_cons (pv 2) pa_nil))) (pa_cons (pe_tupS (pa_cons pe_str pa_nil)) (pa_cons (pe_tupS (pa_cons pe_str (pa_cons (pv 2) (pa_cons (pv 4) pa_nil)))) (pa_cons (pe_tupS (pa_cons pe_str (pa_cons (pv 2) (pa_cons (pv 5) pa_nil)))) pa_nil)))))))
      (pss_cons (ps_set (i := 7) scI.nd rfl (.inl rfl) (pe_op op_catS (pv 7) (pe_lstS (pa_cons (pe_tupS (pa_cons pe_str (pa_cons (pv 2) (pa_cons (pv 3) pa_nil)))) (pa_cons (pe_tupS (pa_cons pe_str (pa_cons (pv 2) (pa_cons (pv 4) (pa_cons (pv 5) pa_nil))))) (pa_cons (pe_tupS (pa_cons pe_str (pa_cons (pv 2) (pa_cons (pv 3) (pa_cons (pv 5) pa_nil))))) pa_nil))))))
      (pss_cons (ps_set (i := 7) scI.nd rfl (.inl rfl) (pe_op op_catS (pv 7) (pe_lstS (pa_cons (pe_tupS (pa_cons pe_str (pa_cons (pv 2) (pa_cons (pv 3) (pa_cons (pv 6) pa_nil))))) (pa_cons (pe_tupS (pa_cons pe_str (pa_cons (pv 6) pa_nil))) (pa_cons (pe_tupS (pa_cons pe_str (pa_cons (pv 2) pa_nil))) (pa_cons (pe_tupS (pa_cons pe_str (pa_cons (pv 6) pa_nil))) pa_nil)))))))
      (pss_one (ps_ret (pe_ix (r := rIxL K) ix_list (pv 7) (pe_call GT hr rfl gT kT bT .nil pass0 (pa_cons (pv 0) (pa_cons pe_int pa_nil))) (fun _ _ => rfl))))))))), ?_⟩
    have l4 : ("abcd" : Str).length = 4 := by decide +kernel
    refine ⟨.ref p, rfl, p, 4, rfl, by decide, by decide, hp, fun H1 r1 o1 P1 h1 => ?_⟩
    obtain ⟨c1, hc1, m1⟩ := a4_at r1 h1
    refine ⟨_, (r1 : Int), c1, rfl, rfl, by omega, by omega, by omega, hc1, .ref p, rfl, p, 4, rfl, by decide, by decide, P1, fun H2 r2 o2 P2 h2 => ?_⟩
    obtain ⟨c2, hc2, m2⟩ := a4_at r2 h2
    refine ⟨_, (r2 : Int), c2, rfl, rfl, by omega, by omega, by omega, hc2, _, _, rfl, ?_⟩
    generalize (⟨#[c1]⟩ : Str) = x1 at m1
    generalize (⟨#[c2]⟩ : Str) = x2 at m2
    refine ⟨(by show 4 ≤ 1000; decide), fun l1 H3 s3 n3 e3 => ⟨.ref p, rfl, p, 4, rfl, by decide, by decide, P2.mono s3, fun H4 r4 o4 P4 h4 => ?_⟩⟩
    have np1 : l1 ≠ p := by
      obtain ⟨g, s, e, _⟩ := P2
      exact (ne_of_none e n3).symm
    have e4 := o4 _ _ np1 e3
    have hnm : (NM.map V.str)[r4]? = some (.str (NM[r4]'h4)) := by
      rw [List.getElem?_map, List.getElem?_eq_getElem (show r4 < NM.length from h4)]
      rfl
    have mnm : NM[r4]'h4 ∈ NM := List.getElem_mem _
    generalize NM[r4]'h4 = nm at hnm mnm
    refine ⟨l1, NM.map V.str, (r4 : Int), .str nm, rfl, rfl, SqL.of e4, atI_nat hnm, ?_⟩
    refine ⟨(by show 4 ≤ 1000; decide), fun l2 H5 s5 n5 e5 => ⟨.ref p, rfl, p, 4, rfl, by decide, by decide, P4.mono s5, fun H6 r6 o6 P6 h6 => ?_⟩⟩
    have np2 : l2 ≠ p := by
      obtain ⟨g, s, e, _⟩ := P4
      exact (ne_of_none e n5).symm
    have e6 := o6 _ _ np2 e5
    have hnu : (NU.map V.int)[r6]? = some (.int (NU[r6]'h6)) := by
      rw [List.getElem?_map, List.getElem?_eq_getElem (show r6 < NU.length from h6)]
      rfl
    have mnu : NU[r6]'h6 ∈ NU := List.getElem_mem _
    generalize NU[r6]'h6 = nu at hnu mnu
    refine ⟨l2, NU.map V.int, (r6 : Int), .int nu, rfl, rfl, SqL.of e6, atI_nat hnu, _, _, rfl, ?_⟩
    refine ⟨.ref p, rfl, .int (n : Int), rfl, _, _, rfl, rfl, p, n + 1, rfl, by omega, by omega, P6, fun H7 t o7 P7 h7 => ?_⟩
    have hO : Off p H H7 := o1.trans (o2.trans ((Off.of s3).trans (o4.trans ((Off.of s5).trans (o6.trans o7)))))
    clear o1 o2 o4 o6 o7 s3 s5 e3 e4 e5 e6 P1 P2 P4 P6
    have N0 : Paired (RowAt H7) [] [] := .nil
    refine ⟨_, rfl, (by show 2 ≤ 1000; decide), fun t0 G0 s0 n0 e0 => ?_⟩
    have N0 := snocT N0 s0 e0
    refine ⟨_, rfl, (by show 2 ≤ 1000; decide), fun t1 G1 s1 n1 e1 => ?_⟩
    have N0 := snocT N0 s1 e1
    refine ⟨(by show 1 ≤ 1000; decide), fun t2 G2 s2 n2 e2 => ?_⟩
    have N0 := snocT N0 s2 e2
    refine ⟨_, rfl, _, rfl, (by show 3 ≤ 1000; decide), fun t3 G3 s3 n3 e3 => ?_⟩
    have N0 := snocT N0 s3 e3
    refine ⟨_, rfl, _, rfl, (by show 3 ≤ 1000; decide), fun t4 G4 s4 n4 e4 => ?_⟩
    have N0 := snocT N0 s4 e4
    have S0 := s0.trans (s1.trans (s2.trans (s3.trans s4)))
    clear s0 s1 s2 s3 s4
    refine ⟨(by show 5 ≤ 1000; decide), fun L1 G5 u5 v5 w5 => ?_⟩
    have N0 := pair_mono (fun _ _ h => RowAt.mono (CP := 0) (Fix.of u5) h) N0
    refine ⟨.ref L1, rfl, ?_⟩
    refine ⟨_, rfl, _, rfl, (by show 3 ≤ 1000; decide), fun t6 G6 s6 n6 e6 => ?_⟩
    have N0 := snocT N0 s6 e6
    refine ⟨_, rfl, _, rfl, _, rfl, (by show 4 ≤ 1000; decide), fun t7' G7 s7 n7 e7 => ?_⟩
    have N0 := snocT N0 s7 e7
    refine ⟨_, rfl, _, rfl, _, rfl, (by show 4 ≤ 1000; decide), fun t8 G8 s8 n8 e8 => ?_⟩
    have N0 := snocT N0 s8 e8
    refine ⟨(by show 3 ≤ 1000; decide), fun L2 G9 u9 v9 w9 => ?_⟩
    have N0 := pair_mono (fun _ _ h => RowAt.mono (CP := 0) (Fix.of u9) h) N0
    have wL1 := u9 _ _ (s8 _ _ (s7 _ _ (s6 _ _ w5)))
    refine ⟨L1, L2, _, _, rfl, rfl, wL1, w9, (by show 5 + 3 ≤ 1000; decide), fun L3 G10 u10 v10 w10 => ?_⟩
    have N0 := pair_mono (fun _ _ h => RowAt.mono (CP := 0) (Fix.of u10) h) N0
    have S1 := S0.trans (u5.trans (s6.trans (s7.trans (s8.trans (u9.trans u10)))))
    clear S0 u5 s6 s7 s8 u9 u10 wL1
    refine ⟨.ref L3, rfl, ?_⟩
    refine ⟨_, rfl, _, rfl, _, rfl, (by show 4 ≤ 1000; decide), fun a0 A0 s0 n0 e0 => ?_⟩
    have N0 := snocT N0 s0 e0
    refine ⟨_, rfl, (by show 2 ≤ 1000; decide), fun a1 A1 s1 n1 e1 => ?_⟩
    have N0 := snocT N0 s1 e1
    refine ⟨_, rfl, (by show 2 ≤ 1000; decide), fun a2 A2 s2 n2 e2 => ?_⟩
    have N0 := snocT N0 s2 e2
    refine ⟨_, rfl, (by show 2 ≤ 1000; decide), fun a3 A3 s3 n3 e3 => ?_⟩
    have N0 := snocT N0 s3 e3
    refine ⟨(by show 4 ≤ 1000; decide), fun L4 A4' u4 v4 w4 => ?_⟩
    have N0 := pair_mono (fun _ _ h => RowAt.mono (CP := 0) (Fix.of u4) h) N0
    have wL3 := u4 _ _ (s3 _ _ (s2 _ _ (s1 _ _ (s0 _ _ w10))))
    refine ⟨L3, L4, _, _, rfl, rfl, wL3, w4, (by show 8 + 4 ≤ 1000; decide), fun L5 A5 u5 v5 w5 => ?_⟩
    have N0 := pair_mono (fun _ _ h => RowAt.mono (CP := 0) (Fix.of u5) h) N0
    have S2 := S1.trans (s0.trans (s1.trans (s2.trans (s3.trans (u4.trans u5)))))
    clear S1 s0 s1 s2 s3 u4 u5 wL3
    have P9 := P7.mono S2
    have nL : L5 ≠ p := by
      obtain ⟨g, s, e, _⟩ := P7.mono (S2)
      intro z
      obtain ⟨g, s, e, _⟩ := P7
      have e2 := S2 _ _ e
      rw [← z, w5] at e2
      cases e2
    refine ⟨.ref L5, rfl, .ref p, rfl, p, 12, rfl, by decide, by decide, P9, fun H9 r9 o9 P10 h9 => ?_⟩
    have w9 := o9 _ _ nL w5
    have hrow : ((insM x1 x2 nm nu (t : Int)).map MR.ins)[r9]? = some (MR.ins ((insM x1 x2 nm nu (t : Int))[r9]'h9)) := by
      rw [List.getElem?_map, List.getElem?_eq_getElem (show r9 < (insM x1 x2 nm nu (t : Int)).length from h9)]
      rfl
    have mem : (insM x1 x2 nm nu (t : Int))[r9]'h9 ∈ insM x1 x2 nm nu (t : Int) := List.getElem_mem _
    generalize (insM x1 x2 nm nu (t : Int))[r9]'h9 = xs at hrow mem
    obtain ⟨v, hv, rv⟩ := pair_take (show Paired (RowAt A5) ((insM x1 x2 nm nu (t : Int)).map MR.ins) _ from N0) hrow
    refine ⟨L5, _, (r9 : Int), v, rfl, rfl, SqL.of w9, atI_nat hv, ?_⟩
    refine q H9 v (.ins xs) (fun b o nb e => o9 b o nb (S2 _ _ (hO b o nb e))) P10 (rv.mono (CP := 0) (fix_off o9 P9)) ?_
    rcases ins_chk m1 m2 mnm mnu (by omega) xs mem with h | h
    · exact row_ins h (.inl rfl)
    · exact row_ins h (.inr ⟨t, rfl, by omega⟩)
end
end KD

set_option Elab.async false
set_option linter.all false
set_option maxRecDepth 100000
set_option maxHeartbeats 4000000
/-! What the law draws: pieces; pieces shown. -/
namespace KD
open PySem PySem.Spec PyProof.Rows L2 L2.FK FS TX TG PG
def MN : List Int := [0, 1, 2, 5, 16]
theorem mn_ok : ∀ m ∈ MN, 0 ≤ m ∧ m ≤ 16 := by decide
/-- a piece as the law writes it: its name, its kind, its rows -/
def PcTAt (H : Hp) (p : MP) (v : V) : Prop := ∃ q t vs, v = .ref q ∧ H q = some (.tup [.str p.name, .str p.kind, .ref t]) ∧ H t = some (.tup vs) ∧ Paired (RowAt H) p.rows vs
theorem PcTAt.mono {CP : Addr} {H H' : Hp} (f : Fix CP H H') {p : MP} {v : V} (h : PcTAt H p v) : PcTAt H' p v := by
  obtain ⟨q, t, vs, e, h1, h2, h3⟩ := h
  exact ⟨q, t, vs, e, f.1 _ _ h1, f.1 _ _ h2, pair_mono (fun _ _ h => h.mono f) h3⟩
theorem pat_ne {p l : Addr} {H : Hp} (hp : LP.PAt p H) (n : H l = none) : l ≠ p := by
  obtain ⟨g, s, e, _⟩ := hp
  exact (ne_of_none e n).symm
section
variable {P : Program} {w : World} {K : PySem.W.Frag} {mg : Str → Option Value} {base : Heap} {CM CP : Addr}
def spPie : Sp := fun vs H Q _ => ∃ (p : Addr) (nm : Str), vs = [.ref p, .str nm] ∧ LP.PAt p H ∧ ∀ H' v pc, Off p H H' → LP.PAt p H' → PcTAt H' pc v → pc.name = nm → PcG pc → Q v H'
theorem scPi : FnScope ["_law_pool_here", "_law_name", "_law_many", "_law_one", "_law_words"] ["_law_pool_here", "_law_name"] (defScope sPie) := ⟨rfl, rfl, rfl, by decide +kernel, rfl, by decide +kernel, by decide +kernel⟩
theorem ok_pie {f fT fI : Addr} {fd fdT fdI : FuncData} (F : Fun K "_law_piece" "_law_piece" sPie f fd) (zr : mg "range" = none) (zt : mg "tuple" = none)
    (GT : FnOk P w K mg base CX0 1 fT fdT ["_law_pool_here", "_law_many"] LP.spTake) (bT : Binds K fdT ["_law_pool_here", "_law_many"] []) (gT : mg "_law_take" = some (.ref fT)) (kT : PySem.W.keepIn K (.ref fT) = true)
    (GI : FnOk P w K mg base CX0 2 fI fdI ["_law_pool_here", "_law_many"] spIns) (bI : Binds K fdI ["_law_pool_here", "_law_many"] []) (gI : mg "_law_instruction" = some (.ref fI)) (kI : PySem.W.keepIn K (.ref fI) = true) : FnOk P w K mg base CX0 3 f fd ["_law_pool_here", "_law_name"] spPie := by
  refine F.ok scPi (fun vs H Q E h => ?_) (fun cdv A outer s H vs Q E hr h => ?_)
  · obtain ⟨p, n, rfl, _⟩ := h
    rfl
  · obtain ⟨p, nm, rfl, hp, q⟩ := h
    have hr1 : Room 1 _ := hr.mono (by decide)
    refine ⟨_, pss_cons (ps_set (i := 2) scPi.nd rfl (.inr rfl) (pe_ix (r := rIxL K) ix_list (pe_lstS (pa_cons pe_int (pa_cons pe_int (pa_cons pe_int (pa_cons pe_int (pa_cons pe_int pa_nil)))))) (pe_call GT hr1 rfl gT kT bT .nil pass0 (pa_cons (pv 0) (pa_cons pe_int pa_nil))) (fun _ _ => rfl)))
      (pss_cons (ps_if (pt_cmpR op_eq (pe_call GT hr1 rfl gT kT bT .nil pass0 (pa_cons (pv 0) (pa_cons pe_int pa_nil))) pe_int (nomark _))
        (pss_one (ps_ret (pe_tupS (pa_cons (pv 1) (pa_cons pe_str (pa_cons (pe_callTy call_tupleS (by rfl) zt boot_tuple (pa_cons (pe_lc (own := [("_law_one", 3)]) (g := gName 3) (tt := tYes) rfl scPi.nd (pi_range1 rfl zr (pa_cons (pv 2) pa_nil)) (blkOk_by (N := ["_law_pool_here", "_law_name", "_law_many", "_law_one", "_law_words"]) (sc := defScope sPie) (by decide +kernel)) (fun _ _ _ _ _ => pg_name (i := 3) scPi.nd rfl (Or.inl rfl)) (fun _ _ _ _ _ => pts_nil)
            (fun _ _ _ _ _ => pe_call GI hr rfl gI kI bI .nil pass0 (pa_cons (pv 0) (pa_cons (pv 2) pa_nil)))) pa_nil)) pa_nil)))))) pss_nil)
      (pss_cons (ps_set (i := 4) scPi.nd rfl (.inr rfl) (pe_lstS (pa_cons pe_int (pa_cons pe_int (pa_cons pe_int (pa_cons pe_int (pa_cons pe_str (pa_cons pe_str (pa_cons pe_str pa_nil)))))))))
      (pss_one (ps_ret (pe_tupS (pa_cons (pv 1) (pa_cons pe_str (pa_cons (pe_callTy call_tupleS (by rfl) zt boot_tuple (pa_cons (pe_lc (own := [("_law_one", 3)]) (g := gName 3) (tt := tYes) rfl scPi.nd (pi_range1 rfl zr (pa_cons (pv 2) pa_nil)) (blkOk_by (N := ["_law_pool_here", "_law_name", "_law_many", "_law_one", "_law_words"]) (sc := defScope sPie) (by decide +kernel)) (fun _ _ _ _ _ => pg_name (i := 3) scPi.nd rfl (Or.inl rfl)) (fun _ _ _ _ _ => pts_nil)
            (fun _ _ _ _ _ => pe_ix (r := rIxL K) ix_list (pv 4) (pe_call GT hr1 rfl gT kT bT .nil pass0 (pa_cons (pv 0) (pa_cons pe_int pa_nil))) (fun _ _ => rfl))) pa_nil)) pa_nil)))))))), ?_⟩
    refine ⟨(by show 5 ≤ 1000; decide), fun l1 H3 s3 n3 e3 => ⟨.ref p, rfl, p, 5, rfl, by decide, by decide, hp.mono s3, fun H4 r4 o4 P4 h4 => ?_⟩⟩
    have np1 := pat_ne hp n3
    have e4 := o4 _ _ np1 e3
    have hmn : (MN.map V.int)[r4]? = some (.int (MN[r4]'h4)) := by
      rw [List.getElem?_map, List.getElem?_eq_getElem (show r4 < MN.length from h4)]
      rfl
    have mmn := mn_ok (MN[r4]'h4) (List.getElem_mem _)
    generalize MN[r4]'h4 = mi at hmn mmn
    obtain ⟨n, rfl⟩ : ∃ n : Nat, mi = (n : Int) := ⟨mi.toNat, by omega⟩
    have hn : n ≤ 16 := by omega
    refine ⟨l1, MN.map V.int, (r4 : Int), .int (n : Int), rfl, rfl, SqL.of e4, atI_nat hmn, ?_⟩
    have o04 : Off p H H4 := (Off.of s3).trans o4
    refine ⟨.ref p, rfl, p, 2, rfl, by decide, by decide, P4, fun H5 r5 o5 P5 h5 => ⟨rfl, _, rfl, ?_⟩⟩
    have o05 := o04.trans o5
    have hz : ((n : Int)).toNat = n := by omega
    refine ite2 (fun hc => ?_) (fun hc => ?_)
    · refine ⟨.str nm, rfl, .int (n : Int), rfl, (n : Int), rfl, by omega, by omega, fun D hD => ?_⟩
      have nD := pat_ne P5 hD
      refine lc_range (n := ((n : Int)).toNat) (fun i H' => Off p H5 H' ∧ LP.PAt p H' ∧ ∃ rs vs, H' D = some (.lst vs) ∧ Paired (RowAt H') rs vs ∧ rs.length = i ∧ ∀ r ∈ rs, RowG "func" n r) ⟨Off.of (same_new hD), P5.mono (same_new hD), [], [], upd_same, .nil, rfl, fun r h => nomatch h⟩ (fun i H6 hi ⟨o6, P6, rs, vs, eD, pr, lr, gr⟩ => ?_) (fun H6 ⟨o6, P6, rs, vs, eD, pr, lr, gr⟩ => ?_)
      · refine ⟨rfl, .ref p, rfl, .int (n : Int), rfl, p, n, rfl, hn, P6, fun H7 v r o7 P7 rv rg => ⟨vs, o7 _ _ nD eD, ?_, ?_⟩⟩
        · rw [← pr.length, lr]
          exact small1000 (by omega)
        · have f7 := fix_off (CP := 0) o7 P6
          have eD7 := o7 _ _ nD eD
          have f8 : Fix 0 H7 (upd H7 D (.lst (vs ++ [v]))) := Fix.lst eD7
          refine ⟨fun b o nb eb => ?_, ?_, rs ++ [r], vs ++ [v], upd_same, pair_snoc (pair_mono (fun _ _ h => (h.mono f7).mono f8) pr) (rv.mono f8), by rw [List.length_append, lr]; rfl, fun x hx => ?_⟩
          · rw [upd_ne (ne_of_none eb hD)]
            exact o7 _ _ nb (o6 _ _ nb eb)
          · obtain ⟨g, s, e, k⟩ := P7
            exact ⟨g, s, by rw [upd_ne nD.symm]; exact e, k⟩
          · rcases List.mem_append.mp hx with h | h
            · exact gr x h
            · rw [List.mem_singleton.mp h]; exact rg
      · rw [hz] at lr
        refine ⟨D, vs, rfl, SqL.of eD, fun t H7 s7 n7 e7 => ⟨(by show 3 ≤ 1000; decide), fun q8 H8 s8 n8 e8 => ?_⟩⟩
        refine q H8 _ ⟨nm, "func", rs⟩ (o05.trans (o6.trans ((Off.of s7).trans (Off.of s8)))) ((P6.mono s7).mono s8) ⟨q8, t, vs, rfl, e8, s8 _ _ e7, pair_mono (fun _ _ h => h.mono (CP := 0) (Fix.of (s7.trans s8))) pr⟩ rfl ⟨.inl rfl, by show rs.length ≤ 16; omega, fun r hr => ?_⟩
        show RowG "func" rs.length r
        rw [lr]
        exact gr r hr
    · refine ⟨(by show 7 ≤ 1000; decide), fun l2 H6 s6 n6 e6 => ?_⟩
      have np2 := pat_ne P5 n6
      have P6 := P5.mono s6
      have o06 := o05.trans (Off.of s6)
      refine ⟨.str nm, rfl, .int (n : Int), rfl, (n : Int), rfl, by omega, by omega, fun D hD => ?_⟩
      have nD := pat_ne P6 hD
      have nLD : l2 ≠ D := ne_of_none e6 hD
      refine lc_range (n := ((n : Int)).toNat) (fun i H' => Off p H6 H' ∧ LP.PAt p H' ∧ ∃ rs vs, H' D = some (.lst vs) ∧ Paired (RowAt H') rs vs ∧ rs.length = i ∧ ∀ r ∈ rs, RowG "data" n r) ⟨Off.of (same_new hD), P6.mono (same_new hD), [], [], upd_same, .nil, rfl, fun r h => nomatch h⟩ (fun i H7 hi ⟨o7, P7, rs, vs, eD, pr, lr, gr⟩ => ?_) (fun H7 ⟨o7, P7, rs, vs, eD, pr, lr, gr⟩ => ?_)
      · refine ⟨rfl, .ref l2, rfl, .ref p, rfl, p, 7, rfl, by decide, by decide, P7, fun H8 r8 o8 P8 h8 => ?_⟩
        have e8 := o8 _ _ np2 (o7 _ _ np2 e6)
        have hw : DW[r8]? = some (DW[r8]'h8) := List.getElem?_eq_getElem (show r8 < DW.length from h8)
        have cw := cD (DW[r8]'h8) (List.getElem_mem _)
        generalize DW[r8]'h8 = v at hw cw
        refine ⟨l2, DW, (r8 : Int), v, rfl, rfl, SqL.of e8, atI_nat hw, vs, o8 _ _ nD eD, ?_, ?_⟩
        · rw [← pr.length, lr]
          exact small1000 (by omega)
        · have f7 := fix_off (CP := 0) o8 P7
          have eD7 := o8 _ _ nD eD
          have f8 : Fix 0 H8 (upd H8 D (.lst (vs ++ [v]))) := Fix.lst eD7
          refine ⟨fun b o nb eb => ?_, ?_, rs ++ [.dat v], vs ++ [v], upd_same, pair_snoc (pair_mono (fun _ _ h => (h.mono f7).mono f8) pr) (show RowAt _ (.dat v) v from rfl), by rw [List.length_append, lr]; rfl, fun x hx => ?_⟩
          · rw [upd_ne (ne_of_none eb hD)]
            exact o8 _ _ nb (o7 _ _ nb eb)
          · obtain ⟨g, s, e, k⟩ := P8
            exact ⟨g, s, by rw [upd_ne nD.symm]; exact e, k⟩
          · rcases List.mem_append.mp hx with h | h
            · exact gr x h
            · rw [List.mem_singleton.mp h]; exact row_dat cw
      · rw [hz] at lr
        refine ⟨D, vs, rfl, SqL.of eD, fun t H8 s8 n8 e8 => ⟨(by show 3 ≤ 1000; decide), fun q9 H9 s9 n9 e9 => ?_⟩⟩
        refine q H9 _ ⟨nm, "data", rs⟩ (o06.trans (o7.trans ((Off.of s8).trans (Off.of s9)))) ((P7.mono s8).mono s9) ⟨q9, t, vs, rfl, e9, s9 _ _ e8, pair_mono (fun _ _ h => h.mono (CP := 0) (Fix.of (s8.trans s9))) pr⟩ rfl ⟨.inr rfl, by show rs.length ≤ 16; omega, fun r hr => ?_⟩
        show RowG "data" rs.length r
        rw [lr]
        exact gr r hr
/-! ### _law_shown -/
def spShown : Sp := fun vs H Q _ => ∃ v pc, vs = [v] ∧ PcTAt H pc v ∧ PcG pc ∧ pc.name.length ≤ 20 ∧ ∀ H' l, Same H H' → H l = none → H' l = some (.lst (((pcW pc).map line).map V.str)) → Q (.ref l) H'
theorem scSh : FnScope ["_law_piece_here", "_law_name", "_law_kind", "_law_rows", "_law_found", "_law_row", "_law_words", "_law_word"] ["_law_piece_here"] (defScope sShown) := ⟨rfl, rfl, rfl, by decide +kernel, rfl, by decide +kernel, by decide +kernel⟩
theorem kind_ins {n : Nat} {r : MR} (g : RowG "func" n r) : ∃ xs, r = .ins xs := by
  have h := g.ok.row
  unfold rowOf at h
  rw [if_pos rfl] at h
  cases e : readIns (rW r) with
  | none => rw [e] at h; cases h
  | some xs => rw [e] at h; exact ⟨xs, (Option.some.inj h).symm⟩
theorem kind_dat {n : Nat} {r : MR} (g : RowG "data" n r) : ∃ v, r = .dat v := by
  have h := g.ok.row
  unfold rowOf at h
  rw [if_neg (by decide)] at h
  split at h
  · cases h
  · exact ⟨_, (Option.some.inj h).symm⟩
/-- row if kind == 'func' else (row,) -/
def tWd (i j : Nat) : TE := fun σ H Q => ∃ (k : Str) (v : V) (r : MR) (n : Nat), σ[i]? = some (some (.str k)) ∧ σ[j]? = some (some v) ∧ RowAt H r v ∧ (k = "func" ∨ k = "data") ∧ RowG k n r ∧ ∀ H' t xs, Same H H' → H' t = some (.tup xs) → xs.map vS = rW r → (∀ x ∈ xs, FlatV x) → Q (.ref t) H'
theorem ok_shown {f : Addr} {fd : FuncData} (F : Fun K "_law_shown" "_law_shown" sShown f fd) (zs : mg "str" = none) : FnOk P w K mg base CX0 1 f fd ["_law_piece_here"] spShown := by
  refine F.ok scSh (fun vs H Q E h => ?_) (fun cdv A outer s H vs Q E hr h => ?_)
  · obtain ⟨v, pc, rfl, _⟩ := h
    rfl
  · obtain ⟨v, pc, rfl, ⟨q0, t0, rvs, rfl, h1, h2, h3⟩, g, hnm, q⟩ := h
    refine ⟨_, pss_cons (ps_asg (pv 0) (pg_tup rfl (pgs_cons (pg_name (i := 1) scSh.nd rfl (Or.inl rfl)) (pgs_cons (pg_name (i := 2) scSh.nd rfl (Or.inl rfl)) (pgs_cons (pg_name (i := 3) scSh.nd rfl (Or.inl rfl)) pgs_nil)))))
      (pss_cons (ps_set (i := 4) scSh.nd rfl (.inl rfl) (pe_lstS (pa_cons (pe_op op_add_str (pe_op op_add_str (pv 2) pe_str) (pv 1)) pa_nil)))
      (pss_cons (ps_for PassesOwn.never rfl (pi_tup (pv 3)) (pg_name (i := 5) scSh.nd rfl (Or.inl rfl))
        (pss_cons (ps_set (i := 6) scSh.nd rfl (.inl rfl) (pe_imp (t' := tWd 2 5) (pe_ifExp (pt_cmpR op_eq (pv 2) pe_str (nomark _)) (pv 5) (pe_tupS (pa_cons (pv 5) pa_nil))) ?wd))
        (pss_one (ps_expr (pe_bm PySem.F.plainAttrs_list PySem.F.slot_list_append PySem.F.type_list_append mt_append (pv 4) (pa_cons (pe_bm PySem.F.plainAttrs_str PySem.F.slot_str_join PySem.F.type_str_join mt_join pe_str (pa_cons (pe_cw (K := K) (pe_lc (own := [("_law_word", 7)]) (g := gName 7) (tt := tYes) rfl scSh.nd (pi_tup (pv 6)) (blkOk_by (N := ["_law_piece_here", "_law_name", "_law_kind", "_law_rows", "_law_found", "_law_row", "_law_words", "_law_word"]) (sc := defScope sShown) (by decide +kernel)) (fun _ _ _ _ _ => pg_name (i := 7) scSh.nd rfl (Or.inl rfl)) (fun _ _ _ _ _ => pts_nil)
            (fun _ _ _ _ _ => pe_callTy call_strV (by rfl) zs b_str (pa_cons (pv 7) pa_nil))) mono_var) pa_nil)) pa_nil))))))
      (pss_one (ps_ret (pe_op op_catS (pv 4) (pe_lstS (pa_cons pe_str pa_nil))))))), ?main⟩
    case wd =>
      rintro σ H1 Q1 ⟨k, v, r, n, e1, e2, rv, hk, rg, q1⟩
      refine ⟨.str k, e1, rfl, _, rfl, ?_⟩
      rw [str_eq]
      rcases hk with rfl | rfl
      · obtain ⟨xs, rfl⟩ := kind_ins rg
        obtain ⟨t, rfl, et⟩ := rv
        rw [decide_eq_true rfl]
        exact iteT ⟨_, e2, q1 H1 t xs (Same.refl H1) et rfl rg.flat⟩
      · obtain ⟨d, rfl⟩ := kind_dat rg
        have rv : v = d := rv
        subst rv
        rw [decide_eq_false (by decide +kernel)]
        refine iteF ⟨v, e2, (by show 1 ≤ 1000; decide), fun t H2 s2 n2 e3 => q1 H2 t [v] s2 e3 rfl fun x hx => ?_⟩
        rw [List.mem_singleton.mp hx]
        exact rg.flat
    case main =>
      have few := g.few
      have kl := kd_len g
      have c2 : (" " : Str).length = 1 := by decide +kernel
      have lens := pcG_lens g
      have lv : rvs.length = pc.rows.length := h3.length.symm
      refine ⟨.ref q0, rfl, q0, _, rfl, SqT.of h1, rfl, _, _, rfl, _, _, rfl, _, _, rfl, rfl, ?_⟩
      refine ⟨.str pc.kind, rfl, _, _, rfl, rfl, sl1000 (by omega), .str pc.name, rfl, _, _, rfl, rfl, ?_, (by show 1 ≤ 1000; decide), fun L H1 s1 n1 e1 => ?_⟩
      · rw [app_len]
        exact sl1000 (by omega)
      rw [show ((pc.kind ++ (" " : Str)) ++ pc.name) = line [pc.kind, pc.name] from (line2 _ _).symm] at e1
      refine ⟨.ref t0, rfl, t0, rfl, ⟨_, SqT.of (s1 _ _ h2)⟩, ?_⟩
      refine for_tup (xs := rvs) (fun i σ H' => ∃ y5 y6 y7, σ = [some (.ref q0), some (.str pc.name), some (.str pc.kind), some (.ref t0), some (.ref L), y5, y6, y7] ∧ Same H H' ∧ H' L = some (.lst ((([pc.kind, pc.name] :: (pc.rows.take i).map rW).map line).map V.str))) ⟨_, _, _, rfl, s1, e1⟩ (fun i σ H' _ ⟨_, _, _, _, s', _⟩ => SqT.of (s' _ _ h2)) ?turn ?done
      case turn =>
        rintro i y σ H2 hy ⟨y5, y6, y7, rfl, s2, e2⟩
        obtain ⟨r, hr1, hr2⟩ := pair_get h3 hy
        have gr := g.rows r (List.mem_of_getElem? hr1)
        have lr := lens r (List.mem_of_getElem? hr1)
        have hil := (List.getElem?_eq_some_iff.mp hr1).1
        refine ⟨pc.kind, y, r, pc.rows.length, rfl, rfl, hr2.mono (CP := 0) (Fix.of s2), g.kind, gr, fun H3 t xs s3 e3 ex fl => ?_⟩
        have lx : xs.length ≤ 4 := by
          have := lr.2.2
          rw [← ex, List.length_map] at this
          exact this
        have e2' := s3 _ _ e2
        refine ⟨.ref L, rfl, .inl ⟨rfl, _, SqL.of e2'⟩, rfl, .ref t, rfl, t, xs, (xs.map vS).map V.str, rfl, SqT.of e3, by omega, (by show 7 < 8; decide), by rw [List.length_map, List.length_map], fun j x v τ H4 Q' hx hv s4 ht q' => ?_, fun D H4 s4 nD eD => ?_⟩
        · rw [List.getElem?_map, List.getElem?_map, hx] at hv
          cases hv
          exact ⟨x, ht, str_flat (fl x (List.mem_of_getElem? hx)) (q' H4 (Same.refl H4))⟩
        · refine ⟨TG.SP, D, xs.map vS, rfl, rfl, .inl (SqL.of eD), ?_, L, _, _, rfl, rfl, s4 _ _ e2', ?_, ?_⟩
          · have := lens_le (ws := xs.map vS) (by rw [ex]; exact lr.2.1)
            rw [List.length_map] at this ⊢
            omega
          · rw [List.length_map, List.length_map, List.length_cons, List.length_map, List.length_take]
            exact small1000 (by omega)
          · refine ⟨_, _, _, rfl, fun b o eb => ?_, ?_⟩
            · rw [upd_ne (ne_of_none eb n1)]
              exact s4 _ _ (s3 _ _ (s2 _ _ eb))
            · rw [upd_same, take_one hr1, ex]
              simp only [List.map_append, List.map_cons, List.map_nil, List.cons_append]
              rfl
      case done =>
        rintro σ H2 ⟨y5, y6, y7, rfl, s2, e2⟩
        rw [lv, List.take_length] at e2
        refine ⟨.ref L, rfl, (by show 1 ≤ 1000; decide), fun l2 H3 s3 n3 e3 => ⟨L, l2, _, _, rfl, rfl, s3 _ _ e2, e3, ?_, fun l4 H4 s4 n4 e4 => ?_⟩⟩
        · rw [List.length_map, List.length_map, List.length_cons, List.length_map]
          show _ + 1 ≤ 1000
          omega
        · refine q H4 l4 (s2.trans (s3.trans s4)) ?_ ?_
          · exact same_none (s2.trans s3) n4
          · rw [e4]
            unfold pcW
            simp only [List.map_append, List.map_cons, List.map_nil, List.cons_append]
            rw [line1 ("end" : Str)]
end
end KD

set_option Elab.async false
set_option linter.all false
set_option maxRecDepth 100000
set_option maxHeartbeats 8000000
/-! Whether a module is what was drawn. -/
namespace KD
open PySem PySem.Spec PyProof.Rows L2 L2.FK FS TX TG PG
abbrev sRight : Stmt := top 33
def pieceD (p : MP) : PyData := .tuple [.str p.name, .str p.kind, rowsD p.rows]
theorem ly_piece {p : MP} (g : PcG p) (h1 : PyData.strOk p.name = true) : Ly 4 (pieceD p) := ly_tup fun d hd => by
  simp only [List.mem_cons, List.not_mem_nil, or_false] at hd
  rcases hd with rfl | rfl | rfl
  · exact (ly_str h1).mono (by decide)
  · refine (ly_str ?_).mono (by decide)
    rcases g.kind with e | e <;> rw [e] <;> decide +kernel
  · exact ly_rows g
theorem dp_piece {K : PySem.W.Frag} {H : Hp} {p : MP} {v : V} (g : PcG p) (h : PcTAt H p v) : Dp K H v (pieceD p) := by
  obtain ⟨q, t, vs, rfl, h1, h2, h3⟩ := h
  exact .tup (SqT.of h1) (.cons (.str _) (.cons (.str _) (.cons (dp_rows g h2 h3) .nil)))
theorem dp_pieces {K : PySem.W.Frag} {H : Hp} : ∀ {ps : List MP} {vs : List V}, Paired (PcTAt H) ps vs → (∀ p ∈ ps, PcG p) → DpAll K H vs (ps.map pieceD)
  | _, _, .nil, _ => .nil
  | _, _, .cons h t, g => .cons (dp_piece (g _ (List.mem_cons_self ..)) h) (dp_pieces t fun p hp => g p (List.mem_cons_of_mem _ hp))
theorem dp_ints {K : PySem.W.Frag} {H : Hp} : ∀ (l : List Nat), DpAll K H (l.map fun n : Nat => V.int (n : Int)) (l.map fun n : Nat => PyData.int (n : Int))
  | [] => .nil
  | n :: r => .cons (.int _) (dp_ints r)
theorem ly_ints (l : List Nat) : ∀ d ∈ l.map fun n : Nat => PyData.int (n : Int), Ly 0 d := fun d hd => by
  obtain ⟨n, _, rfl⟩ := List.mem_map.mp hd
  exact ly_int _
theorem lya {l : List (Str × Str)} (h : ∀ p ∈ l, PyData.strOk p.1 = true ∧ PyData.strOk p.2 = true) : ∀ d ∈ l.map aliD, Ly 1 d := fun d hd => by
  obtain ⟨p, hp, rfl⟩ := List.mem_map.mp hd
  refine ly_tup fun d hd => ?_
  simp only [List.mem_cons, List.not_mem_nil, or_false] at hd
  rcases hd with rfl | rfl
  · exact ly_str (h p hp).1
  · exact ly_str (h p hp).2
theorem in_strs (z : Str) : ∀ (l : List Str), inV (V.str z) (l.map V.str) = l.contains z := fun l => inV_strs z l
section
variable {P : Program} {w : World} {K : PySem.W.Frag} {mg : Str → Option Value} {base : Heap} {CM CP : Addr}
def NR : List Str := ["_law_module", "_law_exports", "_law_aliases", "_law_pieces", "_law_one", "_law_names", "_law_name"]
def spRight (CM CP : Addr) : Sp := fun vs H Q _ => ∃ m X A L st avs pvs, vs = [.ref m, .ref X, .ref A, .ref L] ∧ ModR CM CP H st (.ref m) ∧ H X = some (.lst (st.ex.map V.str)) ∧ H A = some (.lst avs) ∧ Paired (AliAt H) st.al avs ∧ H L = some (.lst pvs) ∧ Paired (PcTAt H) st.ps pvs ∧ StD st ∧ (∀ p ∈ st.ps, PyData.strOk p.name = true) ∧ st.ps.length ≤ 20 ∧ st.al.length ≤ 50 ∧ ∀ H', Same H H' → Q (.bl true) H'
theorem scRi : FnScope NR ["_law_module", "_law_exports", "_law_aliases", "_law_pieces"] (defScope sRight) := ⟨rfl, rfl, rfl, by decide +kernel, rfl, by decide +kernel, by decide +kernel⟩
theorem mono_fld {i : Nat} {nm : Str} : ∀ (σ : L2.St) (H : Hp) (Q Q' : VK), (∀ v H, Q v H → Q' v H) → tFld K (tVar i) nm σ H Q → tFld K (tVar i) nm σ H Q' := by
  intro σ H Q Q' k h
  obtain ⟨v, h1, a, C, dx, fs, u, h2, h3, h4, h5, h6, h7⟩ := h
  exact ⟨v, h1, a, C, dx, fs, u, h2, h3, h4, h5, h6, k _ _ h7⟩
theorem ok_right {f fH fL : Addr} {fd fdH fdL : FuncData} (F : Fun K "_law_right" "_law_right" sRight f fd) (T : TLn K CM CP) (zt : mg "tuple" = none) (zl : mg "len" = none) (zi : mg "isinstance" = none)
    (GH : FnOk P w K mg base CX0 1 fH fdH ["self", "name"] (spHas CM CP)) (bH : Binds K fdH ["self", "name"] []) (sH : PySem.W.findIn K (.ref CM) "__contains__" = some (some (.ref fH))) (iH : PySem.W.isFn K (.ref fH) = true)
    (GL : FnOk P w K mg base CX0 1 fL fdL ["self"] (spPLen CP)) (bL : Binds K fdL ["self"] []) (sL : PySem.W.findIn K (.ref CP) "__len__" = some (some (.ref fL))) (iL : PySem.W.isFn K (.ref fL) = true) :
    FnOk P w K mg base CX0 3 f fd ["_law_module", "_law_exports", "_law_aliases", "_law_pieces"] (spRight CM CP) := by
  refine F.ok scRi (fun vs H Q E h => ?_) (fun cdv A0 outer s H vs Q E hr h => ?_)
  · obtain ⟨m, X, A, L, st, avs, pvs, rfl, _⟩ := h
    rfl
  · obtain ⟨m, X, A, L, st, avs, pvs, rfl, hm, hX, hA, pA, hL, pL, g, gn, l20, l50, q⟩ := h
    have hm0 := hm
    obtain ⟨m', dx, tp, te, ta, nd, mvs, mavs, kvs, e0, h1, h2, h3, h4, h5, h6, h7, h8⟩ := hm
    cases e0
    have hr1 : Room 1 _ := hr.mono (by decide)
    refine ⟨_, pss_cons (ps_if (PW.pt (pw_or (pt_cmpR (op_neD hr.units) (pe_fld (pv 0) rfl) (pe_callTy call_tupleS (by rfl) zt boot_tuple (pa_cons (pv 1) pa_nil)) (nomark _)) (pw_or1 (pt_cmpR (op_neD hr.units) (pe_fld (pv 0) rfl) (pe_callTy call_tupleS (by rfl) zt boot_tuple (pa_cons (pv 2) pa_nil)) (nomark _))))) (pss_one (ps_ret pe_bl)) pss_nil)
      (pss_cons (ps_if (PW.pt (pw_or (pt_cmpR (op_neD hr.units) (pe_lc (te := tTupS (tCons (tFld K (tVar 4) "name") (tCons (tFld K (tVar 4) "kind") (tCons (tFld K (tVar 4) "rows") tNil)))) (own := [("_law_one", 4)]) (g := gName 4) (tt := tYes) rfl scRi.nd (pi_tup (pe_fld (pv 0) rfl)) (blkOk_by (N := NR) (sc := defScope sRight) (by decide +kernel)) (fun _ _ _ _ _ => pg_name (i := 4) scRi.nd rfl (Or.inl rfl)) (fun _ _ _ _ _ => pts_nil)
            (fun _ _ _ _ _ => pe_tupS (pa_cons (pe_fld (pv 4) rfl) (pa_cons (pe_fld (pv 4) rfl) (pa_cons (pe_fld (pv 4) rfl) pa_nil))))) (pv 3) (nomark _))
          (pw_or1 (pt_cmpR op_ne (pe_callB (id := "len") (r := rLenQ K) call_len_seq (by rfl) zl PySem.boot_len (pa_cons (pe_fld (pv 0) rfl) pa_nil)) (pe_callB (id := "len") (r := rLenQ K) call_len_seq (by rfl) zl PySem.boot_len (pa_cons (pv 3) pa_nil)) (nomark _))))) (pss_one (ps_ret pe_bl)) pss_nil)
      (pss_cons (ps_if (pt_cmpR (op_neD hr.units) (pe_cw (K := K) (pe_lc (own := [("_law_one", 4)]) (g := gName 4) (tt := tYes) rfl scRi.nd (pi_tup (pe_fld (pv 0) rfl)) (blkOk_by (N := NR) (sc := defScope sRight) (by decide +kernel)) (fun _ _ _ _ _ => pg_name (i := 4) scRi.nd rfl (Or.inl rfl)) (fun _ _ _ _ _ => pts_nil)
            (fun _ _ _ _ _ => pe_callB (id := "len") (r := rLenOwn CP (spPLen CP)) (call_len_own sL iL GL bL hr pass0) (by rfl) zl PySem.boot_len (pa_cons (pv 4) pa_nil))) mono_fld)
          (pe_cwl (K := K) (pe_lc (own := [("_law_one", 4)]) (g := gName 4) (tt := tYes) rfl scRi.nd (pi_list (pv 3)) (blkOk_by (N := NR) (sc := defScope sRight) (by decide +kernel)) (fun _ _ _ _ _ => pg_name (i := 4) scRi.nd rfl (Or.inl rfl)) (fun _ _ _ _ _ => pts_nil)
            (fun _ _ _ _ _ => pe_callB (id := "len") (r := rLenQ K) call_len_seq (by rfl) zl PySem.boot_len (pa_cons (pe_ix (r := rIxT K) ix_tup (pv 4) pe_int (fun _ _ => rfl)) pa_nil))) mono_var) (nomark _)) (pss_one (ps_ret pe_bl)) pss_nil)
      (pss_cons (ps_set (i := 5) scRi.nd rfl (.inl rfl) (pe_op op_catS (pe_cwl (K := K) (pe_lc (own := [("_law_one", 4)]) (g := gName 4) (tt := tYes) rfl scRi.nd (pi_list (pv 3)) (blkOk_by (N := NR) (sc := defScope sRight) (by decide +kernel)) (fun _ _ _ _ _ => pg_name (i := 4) scRi.nd rfl (Or.inl rfl)) (fun _ _ _ _ _ => pts_nil)
            (fun _ _ _ _ _ => pe_ix (r := rIxT K) ix_tup (pv 4) pe_int (fun _ _ => rfl))) mono_var)
          (pe_cwl (K := K) (pe_lc (own := [("_law_one", 4)]) (g := gName 4) (tt := tYes) rfl scRi.nd (pi_list (pv 2)) (blkOk_by (N := NR) (sc := defScope sRight) (by decide +kernel)) (fun _ _ _ _ _ => pg_name (i := 4) scRi.nd rfl (Or.inl rfl)) (fun _ _ _ _ _ => pts_nil)
            (fun _ _ _ _ _ => pe_ix (r := rIxT K) ix_tup (pv 4) pe_int (fun _ _ => rfl))) mono_var)))
      (pss_cons (ps_for PassesOwn.never rfl (pi_list (pe_lstS (pa_cons pe_str (pa_cons pe_str (pa_cons pe_str (pa_cons pe_str (pa_cons pe_str (pa_cons pe_str (pa_cons pe_str (pa_cons pe_str pa_nil)))))))))) (pg_name (i := 6) scRi.nd rfl (Or.inl rfl))
        (pss_one (ps_if (pt_cmpR op_ne (pe_cmpR (op_in_own sH iH GH bH hr1 pass0) (pv 6) (pv 0) (by rfl)) (pe_cmpR op_in_seq (pv 6) (pv 5) (by rfl)) (nomark _)) (pss_one (ps_ret pe_bl)) pss_nil)))
      (pss_one (ps_ret (pe_callB (id := "isinstance") (r := rIsi K) call_isi (by rfl) zi b_isi (pa_cons (pe_fld (pv 0) rfl) (pa_cons (pe_bltn rfl zt b_join (v := .ty "tuple") rfl) pa_nil))))))))), ?main⟩
    case main =>
      have lav : mavs.length = st.al.length := h6.length.symm
      -- exports, aliases
      refine ⟨.ref m, rfl, m, CM, dx, _, .ref te, rfl, h1, T.cM, T.nExports, rfl, .ref X, rfl, X, _, rfl, SqL.of hX, fun t1 H1 s1 n1 e1 => ?_⟩
      refine ⟨.tuple (st.ex.map PyData.str), .tuple (st.ex.map PyData.str), .tup (SqT.of (s1 _ _ h4)) (dp_txs _), .tup (SqT.of e1) (dp_txs _), (ly_tup (ly_txs g.ex)).sh (by decide), (ly_tup (ly_txs g.ex)).sh (by decide), _, rfl, ?_⟩
      rw [SeqAt.eqv_refl _ (SeqAt.canLay_of_shaped ((ly_tup (ly_txs g.ex)).sh (by decide)))]
      refine iteF ?_
      refine ⟨.ref m, rfl, m, CM, dx, _, .ref ta, rfl, s1 _ _ h1, T.cM, T.nAliases, rfl, .ref A, rfl, A, _, rfl, SqL.of (s1 _ _ hA), fun t2 H2 s2 n2 e2 => ?_⟩
      have s02 := s1.trans s2
      have am : ∀ {H' : Hp}, Same H H' → ∀ {vs : List V}, Paired (AliAt H) st.al vs → Paired (AliAt H') st.al vs := fun s _ h => pair_mono (fun _ _ h => h.mono (CP := CP) (Fix.of s)) h
      refine ⟨.tuple (st.al.map aliD), .tuple (st.al.map aliD), .tup (SqT.of (s02 _ _ h5)) (dp_alis (am s02 h6)), .tup (SqT.of e2) (dp_alis (am s02 pA)), (ly_tup (lya g.al)).sh (by decide), (ly_tup (lya g.al)).sh (by decide), _, rfl, ?_⟩
      rw [SeqAt.eqv_refl _ (SeqAt.canLay_of_shaped ((ly_tup (lya g.al)).sh (by decide)))]
      refine iteF ?_
      -- the pieces
      have lmv : mvs.length = st.ps.length := h3.length.symm
      have lpv : pvs.length = st.ps.length := pL.length.symm
      refine ⟨.ref m, rfl, m, CM, dx, _, .ref tp, rfl, s02 _ _ h1, T.cM, T.nPieces, rfl, tp, rfl, ⟨_, SqT.of (s02 _ _ h2)⟩, fun D hD => ?_⟩
      refine lc_tup (xs := mvs) (fun i H' => Same H2 H' ∧ ∃ vs, H' D = some (.lst vs) ∧ Paired (PcTAt H') (st.ps.take i) vs) ⟨same_new hD, [], upd_same, .nil⟩ (fun i H' _ h => SqT.of (h.1 _ _ (s02 _ _ h2))) (fun i y H3 hy ⟨s3, vs, eD, pv3⟩ => ?_) (fun H3 ⟨s3, vs, eD, pv3⟩ => ?_)
      · obtain ⟨p, hp, q4, dxp, t4, vs4, rfl, k1, k2, k3⟩ := pair_get h3 hy
        have hil := (List.getElem?_eq_some_iff.mp hp).1
        have s03 := s02.trans s3
        have k1' := s03 _ _ k1
        refine ⟨rfl, .ref q4, rfl, q4, CP, dxp, _, _, rfl, k1', T.cP, T.pName, rfl, .ref q4, rfl, q4, CP, dxp, _, _, rfl, k1', T.cP, T.pKind, rfl, .ref q4, rfl, q4, CP, dxp, _, .ref t4, rfl, k1', T.cP, T.pRows, rfl, (by show 3 ≤ 1000; decide), fun t5 H5 s5 n5 e5 => ⟨vs, s5 _ _ eD, ?_, ?_⟩⟩
        · rw [← pv3.length, List.length_take]
          exact small1000 (by omega)
        · have f5 : Fix CP H5 (upd H5 D (.lst (vs ++ [.ref t5]))) := Fix.lst (s5 _ _ eD)
          have f3 : Fix CP H3 H5 := Fix.of s5
          refine ⟨fun b o eb => ?_, vs ++ [.ref t5], upd_same, ?_⟩
          · rw [upd_ne (ne_of_none eb hD)]
            exact s5 _ _ (s3 _ _ eb)
          · rw [take_one hp]
            exact pair_snoc (pair_mono (fun _ _ h => (h.mono f3).mono f5) pv3) (PcTAt.mono f5 ⟨t5, t4, vs4, rfl, e5, s5 _ _ (s03 _ _ k2), pair_mono (fun _ _ h => h.mono (CP := CP) (Fix.of (s03.trans s5))) k3⟩)
      rw [lmv, List.take_length] at pv3
      have s03 := s02.trans s3
      have lyp : Ly 5 (.list (st.ps.map pieceD)) := ly_lst fun d hd => by
        obtain ⟨p, hp, rfl⟩ := List.mem_map.mp hd
        exact ly_piece (g.ps p hp) (gn p hp)
      have pL3 : Paired (PcTAt H3) st.ps pvs := pair_mono (fun _ _ h => h.mono (CP := CP) (Fix.of s03)) pL
      refine ⟨.ref L, rfl, .list (st.ps.map pieceD), .list (st.ps.map pieceD), .lst (SqL.of eD) (dp_pieces pv3 g.ps), .lst (SqL.of (s03 _ _ hL)) (dp_pieces pL3 g.ps), lyp.sh (by decide), lyp.sh (by decide), _, rfl, ?_⟩
      rw [SeqAt.eqv_refl _ (SeqAt.canLay_of_shaped (lyp.sh (by decide)))]
      refine iteF ?_
      refine ⟨.ref m, rfl, m, CM, dx, _, .ref tp, rfl, s03 _ _ h1, T.cM, T.nPieces, rfl, tp, mvs, rfl, .inr (SqT.of (s03 _ _ h2)), .ref L, rfl, L, pvs, rfl, .inl (SqL.of (s03 _ _ hL)), rfl, _, rfl, ?_⟩
      rw [lmv, lpv]
      refine iteNS rfl ?_
      clear eD pv3 s3 e1 e2
      -- their lengths
      have lyi : Ly 1 (.list ((st.ps.map fun p => p.rows.length).map fun n : Nat => PyData.int (n : Int))) := ly_lst (ly_ints _)
      refine ⟨.ref m, rfl, m, CM, dx, _, .ref tp, rfl, s03 _ _ h1, T.cM, T.nPieces, rfl, tp, mvs, (st.ps.map fun p => p.rows.length).map fun n : Nat => V.int (n : Int), rfl, SqT.of (s03 _ _ h2), by omega, (by show 4 < 7; decide), by rw [List.length_map, List.length_map, lmv], fun i y v τ H4 Q' hy hv s4 ht q' => ?_, fun D4 H4 s4 n4 e4 => ?_⟩
      · obtain ⟨p, hp, q4, dxp, t4, vs4, rfl, k1, k2, k3⟩ := pair_get h3 hy
        rw [List.getElem?_map, List.getElem?_map, hp] at hv
        cases hv
        have s04 := s03.trans s4
        refine ⟨.ref q4, ht, q4, dxp, _, rfl, s04 _ _ k1, q4, p, rfl, ⟨q4, dxp, t4, vs4, rfl, s04 _ _ k1, s04 _ _ k2, pair_mono (fun _ _ h => h.mono (CP := CP) (Fix.of s04)) k3⟩, p.rows.length, rfl, ?_, q' H4 (Same.refl H4)⟩
        have := (g.ps p (List.mem_of_getElem? hp)).few
        exact sl1000 (by omega)
      have s04 := s03.trans s4
      refine ⟨.ref L, rfl, L, pvs, (st.ps.map fun p => p.rows.length).map fun n : Nat => V.int (n : Int), rfl, SqL.of (s04 _ _ hL), by omega, (by show 4 < 7; decide), by rw [List.length_map, List.length_map, lpv], fun i y v τ H5 Q' hy hv s5 ht q' => ?_, fun D5 H5 s5 n5 e5 => ?_⟩
      · obtain ⟨p, hp, q4, t4, vs4, rfl, k1, k2, k3⟩ := pair_get pL hy
        rw [List.getElem?_map, List.getElem?_map, hp] at hv
        cases hv
        have s05 := s04.trans s5
        refine ⟨.ref q4, ht, q4, _, 2, .ref t4, rfl, rfl, SqT.of (s05 _ _ k1), atI_nat (j := 2) rfl, t4, vs4, rfl, .inr (SqT.of (s05 _ _ k2)), ?_⟩
        rw [← k3.length]
        exact q' H5 (Same.refl H5)
      have s05 := s04.trans s5
      refine ⟨.list ((st.ps.map fun p => p.rows.length).map fun n : Nat => PyData.int (n : Int)), .list ((st.ps.map fun p => p.rows.length).map fun n : Nat => PyData.int (n : Int)), .lst (SqL.of (s5 _ _ e4)) (dp_ints _), .lst (SqL.of e5) (dp_ints _), lyi.sh (by decide), lyi.sh (by decide), _, rfl, ?_⟩
      rw [SeqAt.eqv_refl _ (SeqAt.canLay_of_shaped (lyi.sh (by decide)))]
      refine iteF ?_
      -- the names
      have lap : avs.length = st.al.length := pA.length.symm
      refine ⟨.ref L, rfl, L, pvs, (st.ps.map (·.name)).map V.str, rfl, SqL.of (s05 _ _ hL), by omega, (by show 4 < 7; decide), by rw [List.length_map, List.length_map, lpv], fun i y v τ H6 Q' hy hv s6 ht q' => ?_, fun D6 H6 s6 n6 e6 => ?_⟩
      · obtain ⟨p, hp, q4, t4, vs4, rfl, k1, k2, k3⟩ := pair_get pL hy
        rw [List.getElem?_map, List.getElem?_map, hp] at hv
        cases hv
        exact ⟨.ref q4, ht, q4, _, 0, .str p.name, rfl, rfl, SqT.of ((s05.trans s6) _ _ k1), atI_nat (j := 0) rfl, q' H6 (Same.refl H6)⟩
      have s06 := s05.trans s6
      refine ⟨.ref A, rfl, A, avs, (st.al.map (·.1)).map V.str, rfl, SqL.of (s06 _ _ hA), by omega, (by show 4 < 7; decide), by rw [List.length_map, List.length_map, lap], fun i y v τ H7 Q' hy hv s7 ht q' => ?_, fun D7 H7 s7 n7 e7 => ?_⟩
      · obtain ⟨p, hp, q4, rfl, k1⟩ := pair_get pA hy
        rw [List.getElem?_map, List.getElem?_map, hp] at hv
        cases hv
        exact ⟨.ref q4, ht, q4, _, 0, .str p.1, rfl, rfl, SqT.of ((s06.trans s7) _ _ k1), atI_nat (j := 0) rfl, q' H7 (Same.refl H7)⟩
      refine ⟨D6, D7, _, _, rfl, rfl, s7 _ _ e6, e7, ?_, fun N8 H8 s8 n8 e8 => ?_⟩
      · rw [List.length_map, List.length_map, List.length_map, List.length_map]
        omega
      have s08 := s06.trans (s7.trans s8)
      rw [← List.map_append] at e8
      clear e4 e5 e6 e7
      refine ⟨(by show 8 ≤ 1000; decide), fun N9 H9 s9 n9 e9 => ⟨N9, rfl, ⟨_, SqL.of e9⟩, ?_⟩⟩
      refine for_list (xs := ([("p0" : Str), "p1", "p9", "q0", "q1", "x", "nope", "a"]).map V.str) (fun i σ H' => ∃ y4 y6, σ = [some (.ref m), some (.ref X), some (.ref A), some (.ref L), y4, some (.ref N8), y6] ∧ Same H9 H') ⟨_, _, rfl, Same.refl H9⟩ (fun i σ H' _ ⟨_, _, _, s'⟩ => SqL.of (s' _ _ e9)) ?turn ?done
      case turn =>
        rintro i y σ H10 hy ⟨y4, y6, rfl, s10⟩
        obtain ⟨z, hz, rfl⟩ : ∃ z, ([("p0" : Str), "p1", "p9", "q0", "q1", "x", "nope", "a"])[i]? = some z ∧ y = .str z := by
          rw [List.getElem?_map] at hy
          cases e : ([("p0" : Str), "p1", "p9", "q0", "q1", "x", "nope", "a"])[i]? with
          | none => rw [e] at hy; cases hy
          | some z => rw [e] at hy; cases hy; exact ⟨z, rfl, rfl⟩
        have s910 := s08.trans (s9.trans s10)
        refine ⟨.str z, rfl, .ref m, rfl, m, dx, _, rfl, s910 _ _ h1, m, z, st, rfl, hm0.mono (Ke.of s910), fun H11 s11 => ⟨_, rfl, ?_⟩⟩
        refine ⟨.str z, rfl, .ref N8, rfl, N8, (st.ps.map (·.name) ++ st.al.map (·.1)).map V.str, rfl, .inl (SqL.of (s11 _ _ (s10 _ _ (s9 _ _ e8)))), rfl, by simp [flatV], rfl, _, rfl, ?_⟩
        rw [show (if false = true then !inV (V.str z) ((st.ps.map (·.name) ++ st.al.map (·.1)).map V.str) else inV (V.str z) ((st.ps.map (·.name) ++ st.al.map (·.1)).map V.str)) = hasN st z from in_strs z _]
        refine iteNS rfl ?_
        exact ⟨_, _, rfl, s10.trans s11⟩
      case done =>
        rintro σ H10 ⟨y4, y6, rfl, s10⟩
        have s910 := s08.trans (s9.trans s10)
        exact ⟨.ref m, rfl, m, CM, dx, _, .ref tp, rfl, s910 _ _ h1, T.cM, T.nPieces, rfl, .ref tp, .ty "tuple", .type "tuple", .type "tuple", true, rfl, .ty "tuple", .base (.tup (s910 _ _ h2)), kit_ty (by decide +kernel), q H10 s910⟩
end
end KD

set_option Elab.async false
set_option linter.all false
set_option maxRecDepth 100000
set_option maxHeartbeats 8000000
/-! Modules compared with others. -/
namespace KD
open PySem PySem.Spec PyProof.Rows L2 L2.FK FS TX TG PG
abbrev sCmp : Stmt := top 34
theorem b_list : bootBuiltins "list" = some (.type "list") := by decide +kernel
theorem beq_str (a b : Str) : (a == b) = decide (a = b) := by
  by_cases e : a = b
  · subst e
    simp
  · rw [decide_eq_false e]
    exact beq_eq_false_iff_ne.mpr e
theorem eqv_piece (p p' : MP) : PyData.eqv (pieceD p) (pieceD p') = eqPc p p' := by
  unfold pieceD eqPc
  simp only [PyData.eqv, PyData.eqvAll]
  rw [beq_str, beq_str, Bool.and_true]
/-! ### of what was drawn -/
theorem Dr.names {ts : List TG.It} {j n k l : Nat} (d : Dr ts j n k l) (hj : j ≤ 15) : (∀ z ∈ (putAll ts st0).ex, wordB z = true) ∧ (∀ p ∈ (putAll ts st0).al, wordB p.1 = true ∧ wordB p.2 = true) ∧ ∀ p ∈ (putAll ts st0).ps, wordB p.name = true ∧ ∃ i < 16, p.name = pN i := by
  have n3 := d.n3
  have l1 := d.l1
  have k12 := d.k12
  refine ⟨fun z hz => ?_, fun p hp => ?_, fun p hp => ?_⟩
  · rw [d.ex] at hz
    obtain ⟨i, hi, rfl⟩ := List.mem_map.mp hz
    have := List.mem_range.mp hi
    exact (e_name i (by omega)).2
  · have h1 : p.1 ∈ (putAll ts st0).al.map (·.1) := List.mem_map_of_mem hp
    rw [d.al] at h1
    obtain ⟨i, hi, e⟩ := List.mem_map.mp h1
    have := List.mem_range.mp hi
    rw [← e]
    exact ⟨(q_name i (by omega)).2, (al_words _ (d.al2 p hp)).2⟩
  · have h1 : p.name ∈ (putAll ts st0).ps.map (·.name) := List.mem_map_of_mem hp
    rw [d.ps] at h1
    obtain ⟨i, hi, e⟩ := List.mem_map.mp h1
    have := List.mem_range.mp hi
    rw [← e]
    exact ⟨(p_name i (by omega)).2, i, by omega, rfl⟩
theorem Dr.std {ts : List TG.It} {j n k l : Nat} (d : Dr ts j n k l) (hj : j ≤ 15) : StD (putAll ts st0) := by
  obtain ⟨h1, h2, h3⟩ := d.names hj
  exact ⟨fun z hz => (word_of (h1 z hz)).ok, fun p hp => ⟨(word_of (h2 p hp).1).ok, (word_of (h2 p hp).2).ok⟩, d.psG⟩
theorem Dr.stg {ts : List TG.It} {j n k l : Nat} (d : Dr ts j n k l) (hj : j ≤ 15) : StG (putAll ts st0) := by
  obtain ⟨h1, h2, h3⟩ := d.names hj
  have n3 := d.n3
  have l1 := d.l1
  have k12 := d.k12
  have lal := len_of d.al
  have lps := len_of d.ps
  refine ⟨fun z hz => (word_of (h1 z hz)).len, ?_, fun p hp => ⟨(word_of (h2 p hp).1).len, (word_of (h2 p hp).2).len⟩, by omega, fun p hp => ⟨d.psG p hp, (word_of (h3 p hp).1).len⟩, by omega⟩
  rw [d.ex, List.length_map, List.length_range]
  omega
theorem lines_sum {L : List (List Str)} (k : LinesOk L) : ((L.map line).map (·.length)).sum + (L.map line).length * TG.NL.length ≤ 16777216 := by
  have h2 : ∀ M : List (List Str), (∀ ws ∈ M, ws ≠ [] ∧ ∀ z ∈ ws, WordOk z) → ((M.map line).map (·.length)).sum ≤ 21 * total M := by
    intro M
    induction M with
    | nil => intro _; exact Nat.zero_le _
    | cons w r ih =>
      intro hM
      have i1 := ih fun ws hws => hM ws (List.mem_cons_of_mem _ hws)
      have i2 := line_len (hM w (List.mem_cons_self ..)).2
      unfold total at i1 ⊢
      rw [List.map_cons, List.map_cons, List.sum_cons, List.map_cons, List.sum_cons]
      omega
  have h3 := h2 L k.row
  have h4 := k.sum
  have h5 := k.many
  have nl : TG.NL.length = 1 := by decide +kernel
  rw [nl, List.length_map]
  omega
section
variable {K : PySem.W.Frag} {CB CM CP : Addr}
theorem perr {ts : List TG.It} (h1 : OkAll ts st0) (h2 : LinesOk (TG.wordsOf ts)) {i : Int} (e : parseT (textOf (TG.wordsOf ts)) = .error i) : False := by
  rw [parse_items h1 h2] at e
  cases e
theorem pok {ts : List TG.It} (h1 : OkAll ts st0) (h2 : LinesOk (TG.wordsOf ts)) {st : ST} (e : parseT (textOf (TG.wordsOf ts)) = .ok st) : st = putAll ts st0 := by
  rw [parse_items h1 h2] at e
  cases e
  rfl
theorem toR {H H' : Hp} {m : Addr} {st : ST} (h : ModAtN CM CP H H' m st) : ModR CM CP H' st (.ref m) := by
  obtain ⟨dx, tp, te, ta, nd, pvs, avs, kvs, a1, a2, a3, a4, a5, a6, a7, a8, a9⟩ := h
  exact ⟨m, dx, tp, te, ta, nd, pvs, avs, kvs, rfl, a1, a2, a3, a4, a5, a6, .inl a7, a8⟩
/-- a list changes -/
theorem modR_lst {H : Hp} {D : Addr} {xs : List V} {ys : List V} (hD : H D = some (.lst xs)) {st : ST} {v : V} (h : ModR CM CP H st v) : ModR CM CP (upd H D (.lst ys)) st v := by
  obtain ⟨m, dx, tp, te, ta, nd, pvs, avs, kvs, e0, a1, a2, a3, a4, a5, a6, a7, a8⟩ := h
  have f : Fix CP H (upd H D (.lst ys)) := Fix.lst hD
  refine ⟨m, dx, tp, te, ta, nd, pvs, avs, kvs, e0, ?_, f.1 _ _ a2, pair_mono (fun _ _ h => h.mono f) a3, f.1 _ _ a4, f.1 _ _ a5, pair_mono (fun _ _ h => h.mono (CP := CP) f) a6, ?_, a8⟩
  · rw [upd_ne (ne_of a1 hD (by intro z; cases z))]
    exact a1
  · rcases a7 with a7 | ⟨o, a7⟩
    · exact .inl (by rw [upd_ne (ne_of a7 hD (by intro z; cases z))]; exact a7)
    · exact .inr ⟨o, by rw [upd_ne (ne_of a7 hD (by intro z; cases z))]; exact a7⟩
end
theorem zz_items {ts : List TG.It} {j n k l : Nat} (d : Dr ts j n k l) (hj : j ≤ 15) : ∀ z ∈ [("export zz" : Str), "alias zz x"], ∃ (x : TG.It) (w : List Str), itW x = [w] ∧ line w = z ∧ OkAll (ts ++ [x]) st0 ∧ LinesOk (TG.wordsOf (ts ++ [x])) ∧ (putAll (ts ++ [x]) st0).ps = (putAll ts st0).ps ∧ eqMo (putAll (ts ++ [x]) st0) (putAll ts st0) = false ∧ StD (putAll (ts ++ [x]) st0) := by
  have sd := d.std hj
  intro z hz
  simp only [List.mem_cons, List.not_mem_nil, or_false] at hz
  rcases hz with rfl | rfl
  · have e := d.exZ hj
    have ep : putAll (ts ++ [.ex ["zz"]]) st0 = { putAll ts st0 with ex := (putAll ts st0).ex ++ [("zz" : Str)] } := by rw [putAll_app]; rfl
    refine ⟨.ex ["zz"], ["export", "zz"], rfl, by decide +kernel, e.1, e.2, by rw [ep], ?_, ?_⟩
    · rw [ep]
      unfold eqMo
      dsimp only
      rw [decide_eq_false (fun h => by
        have := congrArg List.length h
        rw [List.length_append] at this
        simp at this)]
      simp
    · rw [ep]
      refine ⟨fun z hz => ?_, sd.al, sd.ps⟩
      rcases List.mem_append.mp hz with h | h
      · exact sd.ex z h
      · rw [List.mem_singleton.mp h]; decide +kernel
  · have e := d.alZ hj
    have ep : putAll (ts ++ [.al "zz" "x"]) st0 = { putAll ts st0 with al := (putAll ts st0).al ++ [(("zz" : Str), ("x" : Str))], nm := (putAll ts st0).nm ++ [("zz" : Str)] } := by rw [putAll_app]; rfl
    refine ⟨.al "zz" "x", ["alias", "zz", "x"], rfl, by decide +kernel, e.1, e.2, by rw [ep], ?_, ?_⟩
    · rw [ep]
      unfold eqMo
      dsimp only
      rw [decide_eq_false (p := (putAll ts st0).al ++ [(("zz" : Str), ("x" : Str))] = (putAll ts st0).al) (fun h => by
        have := congrArg List.length h
        rw [List.length_append] at this
        simp at this)]
      simp
    · rw [ep]
      refine ⟨sd.ex, fun p hp => ?_, sd.ps⟩
      rcases List.mem_append.mp hp with h | h
      · exact sd.al p h
      · rw [List.mem_singleton.mp h]; exact ⟨by decide +kernel, by decide +kernel⟩
def loneP (nm : Str) : MP := ⟨nm, "data", [.dat (.int 99)]⟩
theorem c99 : chkD (.int 99) = true ∧ chkD (.int 5) = true := by decide +kernel
theorem lone_g (nm : Str) : PcG (loneP nm) := ⟨.inr rfl, by show 1 ≤ 16; decide, fun r hr => by
  have hr : r ∈ [MR.dat (.int 99)] := hr
  rw [List.mem_singleton.mp hr]
  exact row_dat c99.1⟩
theorem lone_text (nm : Str) : textOf (TG.wordsOf [.pc (loneP nm)]) = ("data " : Str) ++ nm ++ ("\n99\nend" : Str) := by
  have e : TG.wordsOf [.pc (loneP nm)] = [[("data" : Str), nm], [("99" : Str)], [("end" : Str)]] := by
    rw [words_one]
    show [("data" : Str), nm] :: ([[vS (.int 99)]] ++ [[("end" : Str)]]) = _
    rw [show vS (.int 99) = ("99" : Str) by decide +kernel]
    rfl
  rw [e]
  show Txt.join TG.NL [line [("data" : Str), nm], line [("99" : Str)], line [("end" : Str)]] = _
  rw [TL.join_eq, line2, line1, line1]
  show ((("data" : Str) ++ TG.SP) ++ nm) ++ TG.NL ++ ((("99" : Str) ++ TG.NL) ++ ("end" : Str)) = _
  rw [show ("data " : Str) = ("data" : Str) ++ TG.SP by decide +kernel, show ("\n99\nend" : Str) = TG.NL ++ ((("99" : Str) ++ TG.NL) ++ ("end" : Str)) by decide +kernel]
  simp only [sa]
/-- a module of one piece, in memory; w: the piece -/
def LoneAt (CM CP : Addr) (H : Hp) (v w : V) : Prop := ∃ m dx fs tp, v = .ref m ∧ H m = some (.ins CM dx fs) ∧ fs.lookup ("pieces" : Str) = some (V.ref tp) ∧ H tp = some (.tup [w])
theorem lone_choose {CM CP : Addr} {H : Hp} : ∀ {ps : List MP} {vs : List V}, Paired (fun p v => ModR CM CP H (putAll [.pc (loneP p.name)] st0) v) ps vs → ∃ ws, Paired (LoneAt CM CP H) vs ws ∧ Paired (fun p w => PieceAt CP H (loneP p.name) w) ps ws
  | _, _, .nil => ⟨[], .nil, .nil⟩
  | _, _, .cons h t => by
    obtain ⟨ws, h1, h2⟩ := lone_choose t
    obtain ⟨m, dx, tp, te, ta, nd, pvs, avs, kvs, e0, a1, a2, a3, _⟩ := h
    cases a3 with
    | cons hp ht =>
      cases ht
      exact ⟨_ :: ws, .cons ⟨m, dx, _, tp, e0, a1, rfl, a2⟩ h1, .cons hp h2⟩
section
variable {P : Program} {w : World} {K : PySem.W.Frag} {mg : Str → Option Value} {base : Heap} {CB CM CP : Addr}
def NC : List Str := ["_law_rows", "_law_pieces", "_law_module", "_law_more", "_law_row", "_law_others", "_law_one", "_law_other", "_law_mate", "_law_alike"]
def spCmp (CM CP : Addr) : Sp := fun vs H Q _ => ∃ R L m mo ts j n k l pvs st2, vs = [.ref R, .ref L, .ref m, .ref mo] ∧ Dr ts j n k l ∧ j ≤ 15 ∧ H R = some (.lst (((TG.wordsOf ts).map line).map V.str)) ∧ H L = some (.lst pvs) ∧ Paired (PcTAt H) (putAll ts st0).ps pvs ∧ ModR CM CP H (putAll ts st0) (.ref m) ∧ ModR CM CP H st2 (.ref mo) ∧
  (∀ p ∈ st2.ps, PcG p ∧ PyData.strOk p.name = true) ∧ st2.ps.length ≤ 20 ∧ ∀ H', Same H H' → Q (.bl true) H'
theorem scC : FnScope NC ["_law_rows", "_law_pieces", "_law_module", "_law_more"] (defScope sCmp) := ⟨rfl, rfl, rfl, by decide +kernel, rfl, by decide +kernel, by decide +kernel⟩
theorem ok_cmp {f fP fM fE : Addr} {fd fdP fdM fdE : FuncData} (F : Fun K "_law_compared_right" "_law_compared_right" sCmp f fd) (T : TLn K CM CP) (zli : mg "list" = none)
    (GP : FnOk P w K mg base (L2.CX P w) 7 fP fdP ["text"] (spParse K CB CM CP)) (bP : Binds K fdP ["text"] []) (gP : mg "parse_module" = some (.ref fP)) (kP : PySem.W.keepIn K (.ref fP) = true)
    (GM : FnOk P w K mg base CX0 3 fM fdM ["self", "other"] (spMEq CM CP)) (bM : Binds K fdM ["self", "other"] []) (sM : PySem.W.findIn K (.ref CM) "__eq__" = some (some (.ref fM))) (iM : PySem.W.isFn K (.ref fM) = true)
    (GE : FnOk P w K mg base CX0 1 fE fdE ["self", "other"] (spPEq CP)) (bE : Binds K fdE ["self", "other"] []) (sE : PySem.W.findIn K (.ref CP) "__eq__" = some (some (.ref fE))) (iE : PySem.W.isFn K (.ref fE) = true) :
    FnOk P w K mg base CX0 8 f fd ["_law_rows", "_law_pieces", "_law_module", "_law_more"] (spCmp CM CP) := by
  refine F.ok scC (fun vs H Q E h => ?_) (fun cdv A0 outer s H vs Q E hr h => ?_)
  · obtain ⟨R, L, m, mo, ts, j, n, k, l, pvs, st2, rfl, _⟩ := h
    rfl
  · obtain ⟨R, L, m, mo, ts, j, n, k, l, pvs, st2, rfl, d, hj, hR, hL, pL, hm, hmo, g2, l20, q⟩ := h
    have hr1 : Room 1 _ := hr.mono (by decide)
    have hr3 : Room 3 _ := hr.mono (by decide)
    refine ⟨_, pss_cons (ps_for PassesOwn.never rfl (pi_list (pe_lstS (pa_cons pe_str (pa_cons pe_str pa_nil)))) (pg_name (i := 4) scC.nd rfl (Or.inl rfl))
        (pss_one (ps_if (pt_cmpR (op_eqO GM sM iM bM pass0 hr3) (pe_call (E := fun _ _ _ => False) GP hr rfl gP kP bP .nil (passes_call takes0 (fun _ _ _ _ h => h)) (pa_cons (pe_bm PySem.F.plainAttrs_str PySem.F.slot_str_join PySem.F.type_str_join mt_join pe_str (pa_cons (pe_op op_catS (pv 0) (pe_lstS (pa_cons (pv 4) pa_nil))) pa_nil)) pa_nil)) (pv 2) (nomark _)) (pss_one (ps_ret pe_bl)) pss_nil)))
      (pss_cons (ps_setLc (i := 5) (own := [("_law_one", 6)]) (g := gName 6) (tt := tYes) rfl scC.nd rfl rfl (sw_true rfl rfl rfl (by decide +kernel)) (pi_list (pv 1)) (blkOk_by (N := NC) (sc := defScope sCmp) (by decide +kernel)) (fun _ _ _ _ _ => pg_name (i := 6) scC.nd rfl (Or.inl rfl)) (fun _ _ _ _ _ => pts_nil)
          (fun _ _ _ _ _ => pe_call (E := fun _ _ _ => False) GP hr rfl gP kP bP .nil (passes_call takes0 (fun _ _ _ _ h => h)) (pa_cons (pe_op op_add_str (pe_op op_add_str pe_str (pe_ix (r := rIxT K) ix_tup (pv 6) pe_int (fun _ _ => rfl))) pe_str) pa_nil)))
      (pss_cons (ps_for PassesOwn.never rfl (pi_tup (pe_fld (pv 2) rfl)) (pg_name (i := 6) scC.nd rfl (Or.inl rfl))
        (pss_one (ps_for PassesOwn.never rfl (pi_list (pe_op op_catS (pe_callTy (T := "list") (r := rListS K) call_listS (by rfl) zli b_list (pa_cons (pe_fld (pv 3) rfl) pa_nil))
              (pe_cwl (K := K) (te := tOp (rIxT K) (tFld K (tVar 8) "pieces") (tC (.int 0))) (pe_lc (own := [("_law_mate", 8)]) (g := gName 8) (tt := tYes) rfl scC.nd (pi_list (pv 5)) (blkOk_by (N := NC) (sc := defScope sCmp) (by decide +kernel)) (fun _ _ _ _ _ => pg_name (i := 8) scC.nd rfl (Or.inl rfl)) (fun _ _ _ _ _ => pts_nil)
                (fun _ _ _ _ _ => pe_ix (r := rIxT K) ix_tup (pe_fld (pv 8) rfl) pe_int (fun _ _ => rfl))) mono_var))) (pg_name (i := 7) scC.nd rfl (Or.inl rfl))
            (pss_cons (ps_set (i := 9) scC.nd rfl (.inl rfl) (pe_cmpR (op_eqD hr.units) (pe_tupS (pa_cons (pe_fld (pv 6) rfl) (pa_cons (pe_fld (pv 6) rfl) (pa_cons (pe_fld (pv 6) rfl) pa_nil)))) (pe_tupS (pa_cons (pe_fld (pv 7) rfl) (pa_cons (pe_fld (pv 7) rfl) (pa_cons (pe_fld (pv 7) rfl) pa_nil)))) (nomark _)))
            (pss_one (ps_if (pt_cmpR op_ne (pe_cmpR (op_eqO GE sE iE bE pass0 hr1) (pv 6) (pv 7) (nomark _)) (pv 9) (nomark _)) (pss_one (ps_ret pe_bl)) pss_nil))))))
      (pss_one (ps_ret pe_bl)))), ?main⟩
    case main =>
      have sd := d.std hj
      obtain ⟨nm1, nm2, nm3⟩ := d.names hj
      have k12 := d.k12
      have lps := len_of d.ps
      have lpv : pvs.length = (putAll ts st0).ps.length := pL.length.symm
      -- other texts
      refine ⟨(by show 2 ≤ 1000; decide), fun Z H1 s1 n1 e1 => ⟨Z, rfl, ⟨_, SqL.of e1⟩, ?_⟩⟩
      refine for_list (xs := ([("export zz" : Str), "alias zz x"]).map V.str) (fun i σ H' => ∃ y4 y5 y6 y7 y8 y9, σ = [some (.ref R), some (.ref L), some (.ref m), some (.ref mo), y4, y5, y6, y7, y8, y9] ∧ Same H1 H') ⟨_, _, _, _, _, _, rfl, Same.refl H1⟩ (fun i σ H' _ ⟨_, _, _, _, _, _, _, s'⟩ => SqL.of (s' _ _ e1)) ?turnZ ?doneZ
      case turnZ =>
        rintro i y σ H2 hy ⟨y4, y5, y6, y7, y8, y9, rfl, s2⟩
        obtain ⟨z, hz, rfl⟩ : ∃ z, ([("export zz" : Str), "alias zz x"])[i]? = some z ∧ y = .str z := by
          rw [List.getElem?_map] at hy
          cases e : ([("export zz" : Str), "alias zz x"])[i]? with
          | none => rw [e] at hy; cases hy
          | some z => rw [e] at hy; cases hy; exact ⟨z, rfl, rfl⟩
        obtain ⟨x, w1, x1, x2, x3, x4, x5, x6, x7⟩ := zz_items d hj z (List.mem_of_getElem? hz)
        have s02 := s1.trans s2
        refine ⟨rfl, .ref R, rfl, .str z, rfl, (by show 1 ≤ 1000; decide), fun l3 H3 s3 n3 e3 => ⟨R, l3, _, _, rfl, rfl, s3 _ _ (s02 _ _ hR), e3, ?_, fun l4 H4 s4 n4 e4 => ?_⟩⟩
        · have := d.many
          rw [List.length_map, List.length_map]
          show _ + 1 ≤ 1000
          omega
        · have ew : ((TG.wordsOf ts).map line).map V.str ++ [V.str z] = ((TG.wordsOf (ts ++ [x])).map line).map V.str := by
            rw [words_app, words_one, x1, ← x2]
            simp only [List.map_append, List.map_cons, List.map_nil]
          rw [ew] at e4
          refine ⟨TG.NL, l4, (TG.wordsOf (ts ++ [x])).map line, rfl, rfl, .inl (SqL.of e4), lines_sum x4, _, rfl, .inr ⟨_, rfl, fit_text x4, fun i e => (perr x3 x4 e).elim, fun st5 e5 H5 m5 s5 n5 hm5' => ?_⟩⟩
          obtain rfl := pok x3 x4 e5
          have hm5 := toR hm5'
          have s05 := s02.trans (s3.trans (s4.trans s5))
          have hm' := hm.mono (CM := CM) (CP := CP) (Ke.of s05)
          have hm1 := hm5
          have hm2 := hm'
          obtain ⟨_, dy, _, _, _, _, _, _, _, e0, b1, _⟩ := hm1
          cases e0
          obtain ⟨_, dz, _, _, _, _, _, _, _, e0, b2, _⟩ := hm2
          cases e0
          refine ⟨.ref m, rfl, m5, m, dy, dz, _, _, rfl, rfl, b1, b2, m5, m, _, _, rfl, hm5, hm', x7, sd, fun i p p' h1 h2 => ?_, fun H6 s6 => ⟨_, rfl, _, rfl, ?_⟩⟩
          · rw [x5, h2] at h1
            exact (Option.some.inj h1).symm
          · rw [x6]
            exact iteF ⟨_, _, _, _, _, _, rfl, s2.trans (s3.trans (s4.trans (s5.trans s6)))⟩
      case doneZ =>
        rintro σ H2 ⟨y4, y5, y6, y7, y8, y9, rfl, s2⟩
        have s02 := s1.trans s2
        -- lone pieces
        refine ⟨.ref L, rfl, L, rfl, ⟨_, SqL.of (s02 _ _ hL)⟩, fun D hD => ?_⟩
        refine lc_list (xs := pvs) (fun i H' => Same H2 H' ∧ ∃ vs, H' D = some (.lst vs) ∧ Paired (fun p v => ModR CM CP H' (putAll [.pc (loneP p.name)] st0) v) ((putAll ts st0).ps.take i) vs) ⟨same_new hD, [], upd_same, .nil⟩ (fun i H' _ h => SqL.of (h.1 _ _ (s02 _ _ hL))) (fun i y H3 hy ⟨s3, vs, eD, pv3⟩ => ?_) (fun H3 ⟨s3, vs, eD, pv3⟩ => ?_)
        · obtain ⟨p, hp, q4, t4, vs4, rfl, k1, k2, k3⟩ := pair_get pL hy
          have hil := (List.getElem?_eq_some_iff.mp hp).1
          have k1' := s3 _ _ (s02 _ _ k1)
          obtain ⟨wn, i0, hi0, en⟩ := nm3 p (List.mem_of_getElem? hp)
          have wl := (word_of wn).len
          have c1 : ("data " : Str).length = 5 := by decide +kernel
          have c2 : ("\n99\nend" : Str).length = 7 := by decide +kernel
          obtain ⟨lo1, lo2⟩ := lone hi0 c99.1
          rw [← en] at lo1 lo2
          refine ⟨rfl, .ref q4, rfl, q4, _, 0, .str p.name, rfl, rfl, SqT.of k1', atI_nat (j := 0) rfl, _, _, rfl, rfl, sl1000 (by omega), _, _, rfl, rfl, ?_, ?_⟩
          · rw [app_len]; exact sl1000 (by omega)
          rw [← lone_text]
          refine ⟨_, rfl, .inr ⟨_, rfl, fit_text lo2, fun i e => (perr lo1 lo2 e).elim, fun st5 e5 H5 m5 s5 n5 hm5' => ?_⟩⟩
          obtain rfl := pok lo1 lo2 e5
          have hm5 := toR hm5'
          refine ⟨vs, s5 _ _ eD, ?_, ?_⟩
          · rw [← pv3.length, List.length_take]
            exact small1000 (by omega)
          · have e5 := s5 _ _ eD
            refine ⟨fun b o eb => ?_, vs ++ [.ref m5], upd_same, ?_⟩
            · rw [upd_ne (ne_of_none eb hD)]
              exact s5 _ _ (s3 _ _ eb)
            · rw [take_one hp]
              exact pair_snoc (pair_mono (fun _ _ h => modR_lst e5 (h.mono (Ke.of s5))) pv3) (modR_lst e5 hm5)
        rw [lpv, List.take_length] at pv3
        obtain ⟨ws, pw1, pw2⟩ := lone_choose pv3
        have s03 := s02.trans s3
        have hm3 := hm.mono (CM := CM) (CP := CP) (Ke.of s03)
        have hmo3 := hmo.mono (CM := CM) (CP := CP) (Ke.of s03)
        obtain ⟨_, dx, tp, te, ta, nd, mvs, avs, kvs, e0, a1, a2, a3, _⟩ := hm3
        cases e0
        obtain ⟨_, dy, tp', te', ta', nd', mvs', avs', kvs', e0, b1, b2, b3, _⟩ := hmo3
        cases e0
        have lvs : vs.length = ws.length := pw1.length
        have lws : ws.length = (putAll ts st0).ps.length := pw2.length.symm
        have lmv : mvs.length = (putAll ts st0).ps.length := a3.length.symm
        have lmv' : mvs'.length = st2.ps.length := b3.length.symm
        have all : Paired (PieceAt CP H3) (st2.ps ++ (putAll ts st0).ps.map fun p => loneP p.name) (mvs' ++ ws) := by
          refine pr_app b3 ?_
          have : ∀ {l : List MP} {ws : List V}, Paired (fun p w => PieceAt CP H3 (loneP p.name) w) l ws → Paired (PieceAt CP H3) (l.map fun p => loneP p.name) ws := by
            intro l ws h
            induction h with
            | nil => exact .nil
            | cons h _ ih => exact .cons h ih
          exact this pw2
        have allG : ∀ p ∈ st2.ps ++ (putAll ts st0).ps.map (fun p => loneP p.name), PcG p ∧ PyData.strOk p.name = true := by
          intro p hp
          rcases List.mem_append.mp hp with h | h
          · exact g2 p h
          · obtain ⟨p0, h0, rfl⟩ := List.mem_map.mp h
            exact ⟨lone_g _, (word_of (nm3 p0 h0).1).ok⟩
        refine ⟨.ref m, rfl, m, CM, dx, _, .ref tp, rfl, a1, T.cM, T.nPieces, rfl, tp, rfl, ⟨_, SqT.of a2⟩, ?_⟩
        refine for_tup (xs := mvs) (fun i σ H' => ∃ y4 y6 y7 y8 y9, σ = [some (.ref R), some (.ref L), some (.ref m), some (.ref mo), y4, some (.ref D), y6, y7, y8, y9] ∧ Same H3 H') ⟨_, _, _, _, _, rfl, Same.refl H3⟩ (fun i σ H' _ ⟨_, _, _, _, _, _, s'⟩ => SqT.of (s' _ _ a2)) ?turnO ?doneO
        case doneO =>
          rintro σ H4 ⟨y4, y6, y7, y8, y9, rfl, s4⟩
          exact q H4 (s03.trans s4)
        case turnO =>
          rintro i y σ H4 hy ⟨y4, y6, y7, y8, y9, rfl, s4⟩
          obtain ⟨p, hp, pp⟩ := pair_get a3 hy
          have gp := d.psG p (List.mem_of_getElem? hp)
          have np := (word_of (nm3 p (List.mem_of_getElem? hp)).1).ok
          obtain ⟨q4, dxp, t4, vs4, rfl, k1, k2, k3⟩ := pp
          refine ⟨.ref mo, rfl, mo, CM, dy, _, .ref tp', rfl, s4 _ _ b1, T.cM, T.nPieces, rfl, tp', mvs', rfl, .inr (SqT.of (s4 _ _ b2)), fun l5 H5 s5 n5 e5 => ?_⟩
          have s35 := s4.trans s5
          refine ⟨.ref D, rfl, D, vs, ws, rfl, SqL.of (s35 _ _ eD), by omega, (by show 8 < 10; decide), lvs.symm, fun i y v τ H6 Q' hy hv s6 ht q' => ?_, fun D6 H6 s6 n6 e6 => ?_⟩
          · obtain ⟨z, hz, m7, dx7, fs7, tp7, e7, c1, c2, c3⟩ := pair_get pw1 hv
            rw [hy] at hz
            cases hz
            subst e7
            have s36 := s35.trans s6
            exact ⟨.ref m7, ht, m7, CM, dx7, fs7, .ref tp7, rfl, s36 _ _ c1, T.cM, T.nPieces, c2, tp7, [v], 0, v, rfl, rfl, SqT.of (s36 _ _ c3), atI_nat (j := 0) rfl, q' H6 (Same.refl H6)⟩
          refine ⟨l5, D6, _, _, rfl, rfl, s6 _ _ e5, e6, by omega, fun l7 H7 s7 n7 e7 => ⟨l7, rfl, ⟨_, SqL.of e7⟩, ?_⟩⟩
          have s37 := s35.trans (s6.trans s7)
          refine for_list (xs := mvs' ++ ws) (fun i σ H' => ∃ y4 y7 y8 y9, σ = [some (.ref R), some (.ref L), some (.ref m), some (.ref mo), y4, some (.ref D), some (.ref q4), y7, y8, y9] ∧ Same H7 H') ⟨_, _, _, _, rfl, Same.refl H7⟩ (fun i σ H' _ ⟨_, _, _, _, _, s'⟩ => SqL.of (s' _ _ e7)) ?turnI ?doneI
          case doneI =>
            rintro σ H8 ⟨y4, y7, y8, y9, rfl, s8⟩
            exact ⟨_, _, _, _, _, rfl, s37.trans s8 |> fun s => s⟩
          case turnI =>
            rintro i2 y2 σ H8 hy2 ⟨y4, y7, y8, y9, rfl, s8⟩
            obtain ⟨p', hp', pp'⟩ := pair_get all hy2
            obtain ⟨gp', np'⟩ := allG p' (List.mem_of_getElem? hp')
            obtain ⟨q4', dxp', t4', vs4', rfl, k1', k2', k3'⟩ := pp'
            have s38 := s37.trans s8
            refine ⟨.ref q4, rfl, q4, CP, dxp, _, _, rfl, s38 _ _ k1, T.cP, T.pName, rfl, .ref q4, rfl, q4, CP, dxp, _, _, rfl, s38 _ _ k1, T.cP, T.pKind, rfl, .ref q4, rfl, q4, CP, dxp, _, .ref t4, rfl, s38 _ _ k1, T.cP, T.pRows, rfl, (by show 3 ≤ 1000; decide), fun t9 H9 s9 n9 e9 => ?_⟩
            have s39 := s38.trans s9
            refine ⟨.ref q4', rfl, q4', CP, dxp', _, _, rfl, s39 _ _ k1', T.cP, T.pName, rfl, .ref q4', rfl, q4', CP, dxp', _, _, rfl, s39 _ _ k1', T.cP, T.pKind, rfl, .ref q4', rfl, q4', CP, dxp', _, .ref t4', rfl, s39 _ _ k1', T.cP, T.pRows, rfl, (by show 3 ≤ 1000; decide), fun t10 H10 s10 n10 e10 => ?_⟩
            have s310 := s39.trans s10
            have rm : ∀ {rs : List MR} {us : List V}, Paired (RowAt H3) rs us → Paired (RowAt H10) rs us := fun h => pair_mono (fun _ _ h => h.mono (CP := CP) (Fix.of s310)) h
            refine ⟨pieceD p, pieceD p', dp_piece gp ⟨t9, t4, vs4, rfl, s10 _ _ e9, s310 _ _ k2, rm k3⟩, dp_piece gp' ⟨t10, t4', vs4', rfl, e10, s310 _ _ k2', rm k3'⟩, (ly_piece gp np).sh (by decide), (ly_piece gp' np').sh (by decide), ?_⟩
            rw [eqv_piece]
            refine ⟨.ref q4, rfl, .ref q4', rfl, q4, q4', dxp, dxp', _, _, rfl, rfl, s310 _ _ k1, s310 _ _ k1', q4, q4', p, p', rfl, ⟨q4, dxp, t4, vs4, rfl, s310 _ _ k1, s310 _ _ k2, rm k3⟩, ⟨q4', dxp', t4', vs4', rfl, s310 _ _ k1', s310 _ _ k2', rm k3'⟩, gp, gp', ⟨_, rfl, _, rfl, rfl, _, rfl, iteNS rfl ⟨_, _, _, _, rfl, s8.trans (s9.trans s10)⟩⟩⟩
end
end KD

set_option Elab.async false
set_option linter.all false
set_option maxRecDepth 100000
set_option maxHeartbeats 4000000
/-! What the law has at hand while it draws. -/
namespace KD
open PySem PySem.Spec PyProof.Rows L2 L2.FK FS TX TG PG
structure Wk (p R X A L : Addr) (rows ex : List Str) (al : List (Str × Str)) (ps : List MP) (H1 H : Hp) : Prop where
  same : Same H1 H
  pool : LP.PAt p H
  hR : H R = some (.lst (rows.map V.str))
  hX : H X = some (.lst (ex.map V.str))
  hA : ∃ avs, H A = some (.lst avs) ∧ Paired (AliAt H) al avs
  hL : ∃ pvs, H L = some (.lst pvs) ∧ Paired (PcTAt H) ps pvs
  np : H1 p = none
  nR : H1 R = none
  nX : H1 X = none
  nA : H1 A = none
  nL : H1 L = none
  Rp : R ≠ p
  Xp : X ≠ p
  Ap : A ≠ p
  Lp : L ≠ p
  RX : R ≠ X
  RA : R ≠ A
  RL : R ≠ L
  XA : X ≠ A
  XL : X ≠ L
  AL : A ≠ L
section
variable {p R X A L : Addr} {rows ex : List Str} {al : List (Str × Str)} {ps : List MP} {H1 H H' : Hp}
theorem Wk.sm (h : Wk p R X A L rows ex al ps H1 H) (s : Same H H') : Wk p R X A L rows ex al ps H1 H' := by
  obtain ⟨avs, a1, a2⟩ := h.hA
  obtain ⟨pvs, p1, p2⟩ := h.hL
  have f : Fix 0 H H' := Fix.of s
  exact { h with same := h.same.trans s, pool := h.pool.mono s, hR := s _ _ h.hR, hX := s _ _ h.hX, hA := ⟨avs, s _ _ a1, pair_mono (fun _ _ h => h.mono f) a2⟩, hL := ⟨pvs, s _ _ p1, pair_mono (fun _ _ h => h.mono f) p2⟩ }
theorem Wk.off (h : Wk p R X A L rows ex al ps H1 H) (o : Off p H H') (P : LP.PAt p H') : Wk p R X A L rows ex al ps H1 H' := by
  obtain ⟨avs, a1, a2⟩ := h.hA
  obtain ⟨pvs, p1, p2⟩ := h.hL
  have f : Fix 0 H H' := fix_off o h.pool
  exact { h with same := (fun b x e => o _ _ (ne_of_none e h.np) (h.same _ _ e)), pool := P, hR := o _ _ h.Rp h.hR, hX := o _ _ h.Xp h.hX, hA := ⟨avs, o _ _ h.Ap a1, pair_mono (fun _ _ h => h.mono f) a2⟩, hL := ⟨pvs, o _ _ h.Lp p1, pair_mono (fun _ _ h => h.mono f) p2⟩ }
theorem Wk.addR (h : Wk p R X A L rows ex al ps H1 H) {rows' : List Str} {ys : List V} (e : ys = rows'.map V.str) : Wk p R X A L rows' ex al ps H1 (upd H R (.lst ys)) := by
  obtain ⟨avs, a1, a2⟩ := h.hA
  obtain ⟨pvs, p1, p2⟩ := h.hL
  have f : Fix 0 H (upd H R (.lst ys)) := Fix.lst h.hR
  obtain ⟨g, s, e1, k⟩ := h.pool
  exact { h with same := (fun b x eb => by rw [upd_ne (ne_of_none eb h.nR)]; exact h.same _ _ eb), pool := ⟨g, s, (by rw [upd_ne h.Rp.symm]; exact e1), k⟩, hR := (by rw [upd_same, e]), hX := (by rw [upd_ne h.RX.symm]; exact h.hX), hA := ⟨avs, (by rw [upd_ne h.RA.symm]; exact a1), pair_mono (fun _ _ h => h.mono f) a2⟩, hL := ⟨pvs, (by rw [upd_ne h.RL.symm]; exact p1), pair_mono (fun _ _ h => h.mono f) p2⟩ }
theorem Wk.addA (h : Wk p R X A L rows ex al ps H1 H) {avs : List V} (a1 : H A = some (.lst avs)) (a2 : Paired (AliAt H) al avs) {q : Str × Str} {t : Addr} (e : H t = some (.tup [.str q.1, .str q.2])) : Wk p R X A L rows ex (al ++ [q]) ps H1 (upd H A (.lst (avs ++ [.ref t]))) := by
  obtain ⟨pvs, p1, p2⟩ := h.hL
  have f : Fix 0 H (upd H A (.lst (avs ++ [.ref t]))) := Fix.lst a1
  obtain ⟨g, s, e1, k⟩ := h.pool
  exact { h with same := (fun b x eb => by rw [upd_ne (ne_of_none eb h.nA)]; exact h.same _ _ eb), pool := ⟨g, s, (by rw [upd_ne h.Ap.symm]; exact e1), k⟩, hR := (by rw [upd_ne h.RA]; exact h.hR), hX := (by rw [upd_ne h.XA]; exact h.hX), hA := ⟨_, upd_same, pair_snoc (pair_mono (fun _ _ h => h.mono f) a2) (AliAt.mono f ⟨t, rfl, e⟩)⟩, hL := ⟨pvs, (by rw [upd_ne h.AL.symm]; exact p1), pair_mono (fun _ _ h => h.mono f) p2⟩ }
theorem Wk.addL (h : Wk p R X A L rows ex al ps H1 H) {pvs : List V} (p1 : H L = some (.lst pvs)) (p2 : Paired (PcTAt H) ps pvs) {q : MP} {v : V} (e : PcTAt H q v) : Wk p R X A L rows ex al (ps ++ [q]) H1 (upd H L (.lst (pvs ++ [v]))) := by
  obtain ⟨avs, a1, a2⟩ := h.hA
  have f : Fix 0 H (upd H L (.lst (pvs ++ [v]))) := Fix.lst p1
  obtain ⟨g, s, e1, k⟩ := h.pool
  exact { h with same := (fun b x eb => by rw [upd_ne (ne_of_none eb h.nL)]; exact h.same _ _ eb), pool := ⟨g, s, (by rw [upd_ne h.Lp.symm]; exact e1), k⟩, hR := (by rw [upd_ne h.RL]; exact h.hR), hX := (by rw [upd_ne h.XL]; exact h.hX), hA := ⟨avs, (by rw [upd_ne h.AL]; exact a1), pair_mono (fun _ _ h => h.mono f) a2⟩, hL := ⟨_, upd_same, pair_snoc (pair_mono (fun _ _ h => h.mono f) p2) (PcTAt.mono f e)⟩ }
theorem pat_none {H : Hp} (h : LP.PAt p H) : H p ≠ none := by
  obtain ⟨g, s, e, _⟩ := h
  rw [e]
  intro z
  cases z
theorem Wk.newX (h : Wk p R X A L rows ex al ps H1 H) (s : Same H H') {X' : Addr} {ex' : List Str} (n : H X' = none) (e : H' X' = some (.lst (ex'.map V.str))) : Wk p R X' A L rows ex' al ps H1 H' := by
  obtain ⟨avs, a1, _⟩ := h.hA
  obtain ⟨pvs, p1, _⟩ := h.hL
  exact { h.sm s with hX := e, nX := same_none h.same n, Xp := (fun z => pat_none h.pool (by rw [← z]; exact n)), RX := ne_of_none h.hR n, XA := (ne_of_none a1 n).symm, XL := (ne_of_none p1 n).symm }
theorem Wk.newR (h : Wk p R X A L rows ex al ps H1 H) (s : Same H H') {R' : Addr} {rows' : List Str} (n : H R' = none) (e : H' R' = some (.lst (rows'.map V.str))) : Wk p R' X A L rows' ex al ps H1 H' := by
  obtain ⟨avs, a1, _⟩ := h.hA
  obtain ⟨pvs, p1, _⟩ := h.hL
  exact { h.sm s with hR := e, nR := same_none h.same n, Rp := (fun z => pat_none h.pool (by rw [← z]; exact n)), RX := (ne_of_none h.hX n).symm, RA := (ne_of_none a1 n).symm, RL := (ne_of_none p1 n).symm }
end
/-! ### one piece more -/
structure More (S S' : ST) : Prop where
  pre : ∀ (i : Nat) p p', S'.ps[i]? = some p → S.ps[i]? = some p' → p = p'
  ne : 0 < S.ps.length + S.ex.length + S.al.length → eqMo S' S = false
  std : StD S'
  nm : ∀ p ∈ S'.ps, PcG p ∧ PyData.strOk p.name = true
  few : S'.ps.length ≤ 20
def lastP : MP := ⟨"last", "data", [.dat (.int 5)]⟩
theorem last_words : itW (.pc lastP) = [[("data" : Str), "last"], [("5" : Str)], [("end" : Str)]] := by
  show [("data" : Str), "last"] :: ([[vS (.int 5)]] ++ [[("end" : Str)]]) = _
  rw [show vS (.int 5) = ("5" : Str) by decide +kernel]
  rfl
theorem last_lines : (itW (.pc lastP)).map line = [("data last" : Str), "5", "end"] := by
  rw [last_words]
  decide +kernel
theorem last_g : PcG lastP := ⟨.inr rfl, by show 1 ≤ 16; decide, fun r hr => by
  have hr : r ∈ [MR.dat (.int 5)] := hr
  rw [List.mem_singleton.mp hr]
  exact row_dat c99.2⟩
theorem Dr.moreA {ts : List TG.It} {j n k l : Nat} (d : Dr ts j n k l) (hj : j ≤ 15) (hk : k < 12) : OkAll (ts ++ [.pc lastP]) st0 ∧ LinesOk (TG.wordsOf (ts ++ [.pc lastP])) ∧ More (putAll ts st0) (putAll (ts ++ [.pc lastP]) st0) := by
  have e := d.last hj hk c99.2
  have sd := d.std hj
  obtain ⟨_, _, nm3⟩ := d.names hj
  have lps := len_of d.ps
  have ep : putAll (ts ++ [.pc lastP]) st0 = { putAll ts st0 with ps := (putAll ts st0).ps ++ [lastP], nm := (putAll ts st0).nm ++ [lastP.name] } := by rw [putAll_app]; rfl
  refine ⟨e.1, e.2, ?_⟩
  rw [ep]
  have hm : ∀ p ∈ (putAll ts st0).ps ++ [lastP], PcG p ∧ PyData.strOk p.name = true := by
    intro p hp
    rcases List.mem_append.mp hp with h | h
    · exact ⟨d.psG p h, (word_of (nm3 p h).1).ok⟩
    · rw [List.mem_singleton.mp h]
      exact ⟨last_g, by decide +kernel⟩
  refine ⟨fun i p p' h1 h2 => ?_, fun _ => ?_, ⟨sd.ex, sd.al, fun p hp => (hm p hp).1⟩, hm, ?_⟩
  · have hi := (List.getElem?_eq_some_iff.mp h2).1
    rw [show (({ putAll ts st0 with ps := (putAll ts st0).ps ++ [lastP], nm := (putAll ts st0).nm ++ [lastP.name] } : ST).ps)[i]? = (putAll ts st0).ps[i]? from List.getElem?_append_left hi, h2] at h1
    exact (Option.some.inj h1).symm
  · unfold eqMo
    rw [show (({ putAll ts st0 with ps := (putAll ts st0).ps ++ [lastP], nm := (putAll ts st0).nm ++ [lastP.name] } : ST).ps.length == (putAll ts st0).ps.length) = false from by
      show (((putAll ts st0).ps ++ [lastP]).length == (putAll ts st0).ps.length) = false
      rw [List.length_append, List.length_singleton]
      exact beq_eq_false_iff_ne.mpr (by omega)]
    rfl
  · show ((putAll ts st0).ps ++ [lastP]).length ≤ 20
    rw [List.length_append, List.length_singleton]
    have := d.k12
    omega
theorem Dr.moreB {ts : List TG.It} {j n k l : Nat} (d : Dr ts j n k l) (hk : ¬ k < 12) : OkAll [] st0 ∧ LinesOk (TG.wordsOf []) ∧ More (putAll ts st0) (putAll [] st0) := by
  have lps := len_of d.ps
  refine ⟨True.intro, ⟨(fun ws h => nomatch h), by decide, by decide⟩, (fun i p p' h1 h2 => by cases h1), fun _ => ?_, ⟨(fun z h => nomatch h), (fun z h => nomatch h), fun z h => nomatch h⟩, (fun p h => nomatch h), by decide⟩
  unfold eqMo
  rw [show ((putAll [] st0).ps.length == (putAll ts st0).ps.length) = false from by
    show ((0 : Nat) == (putAll ts st0).ps.length) = false
    rw [lps]
    exact beq_eq_false_iff_ne.mpr (by omega)]
  rfl
end KD

set_option Elab.async false
set_option linter.all false
set_option maxRecDepth 100000
set_option maxHeartbeats 16000000
/-! The law. -/
namespace KD
open PySem PySem.Spec PyProof.Rows L2 L2.FK FS TX TG PG
abbrev sLaw : Stmt := top 35
def NL10 : List Str := ["_law_script", "_law_k", "_law_pool_here", "_law_rows", "_law_exports", "_law_aliases", "_law_pieces", "_law_turn", "_law_way", "_law_some", "_law_one", "_law_text", "_law_module", "_law_whole", "_law_other", "_law_piece_here", "_law_more"]
def AW : List Str := ["x", "p0", "q0"]
/-- the text of one module more -/
def tMore : TE := fun σ H Q => ∃ R L ts j n k l pvs, σ[3]? = some (some (.ref R)) ∧ σ[6]? = some (some (.ref L)) ∧ H R = some (.lst (((TG.wordsOf ts).map line).map V.str)) ∧ H L = some (.lst pvs) ∧ pvs.length = k ∧ Dr ts j n k l ∧ j ≤ 15 ∧
  ∀ H' ts', Same H H' → OkAll ts' st0 → LinesOk (TG.wordsOf ts') → More (putAll ts st0) (putAll ts' st0) → Q (.str (textOf (TG.wordsOf ts'))) H'
theorem words_len {ts : List TG.It} {j n k l : Nat} (d : Dr ts j n k l) (hj : j ≤ 15) : (TG.wordsOf ts).length ≤ 270 := by
  have := d.many
  omega
theorem int_sum (n i : Nat) : vS (.int ((n : Int) + (0 + (i : Int)))) = nsI (n + i) := by
  have : (n : Int) + (0 + (i : Int)) = ((n + i : Nat) : Int) := by omega
  rw [this]
  rfl
theorem at_last (xs : List V) (v : V) : atI (xs ++ [v]) (-1) = some v := by
  unfold atI ixN
  rw [if_neg (by decide)]
  rw [List.length_append, List.length_singleton]
  rw [if_pos (by omega)]
  show (xs ++ [v])[(-1 + ((xs.length + 1 : Nat) : Int)).toNat]? = some v
  have : (-1 + ((xs.length + 1 : Nat) : Int)).toNat = xs.length := by omega
  rw [this]
  simp
section
variable {P : Program} {w : World} {K : PySem.W.Frag} {mg : Str → Option Value} {base : Heap} {CB CM CP : Addr}
def spLaw (K : PySem.W.Frag) : Sp := fun vs H Q _ => ∃ (a : Addr) (ns : List Int), vs = [.ref a] ∧ SqL K H a (ns.map V.int) ∧ ns.length ≤ 63 ∧ ∀ H', Q (.bl true) H'
theorem scLaw : FnScope NL10 ["_law_script"] (defScope sLaw) := ⟨rfl, rfl, rfl, by decide +kernel, rfl, by decide +kernel, by decide +kernel⟩
structure TZ (mg : Str → Option Value) : Prop where
  zr : mg "range" = none
  zM : mg "max" = none
  zm : mg "min" = none
  zl : mg "len" = none
  zs : mg "str" = none
  zn : mg "int" = none
theorem ok_law {f fPo fT fPi fSh fRi fCm fP fM fS : Addr} {fd fdPo fdT fdPi fdSh fdRi fdCm fdP fdM fdS : FuncData} (F : Fun K "law" "law" sLaw f fd) (Z : TZ mg)
    (GPo : FnOk P w K mg base CX0 1 fPo fdPo ["_law_script", "_law_k"] (LP.spPool K)) (bPo : Binds K fdPo ["_law_script", "_law_k"] []) (gPo : mg "_law_pool" = some (.ref fPo)) (kPo : PySem.W.keepIn K (.ref fPo) = true)
    (GT : FnOk P w K mg base CX0 1 fT fdT ["_law_pool_here", "_law_many"] LP.spTake) (bT : Binds K fdT ["_law_pool_here", "_law_many"] []) (gT : mg "_law_take" = some (.ref fT)) (kT : PySem.W.keepIn K (.ref fT) = true)
    (GPi : FnOk P w K mg base CX0 3 fPi fdPi ["_law_pool_here", "_law_name"] spPie) (bPi : Binds K fdPi ["_law_pool_here", "_law_name"] []) (gPi : mg "_law_piece" = some (.ref fPi)) (kPi : PySem.W.keepIn K (.ref fPi) = true)
    (GSh : FnOk P w K mg base CX0 1 fSh fdSh ["_law_piece_here"] spShown) (bSh : Binds K fdSh ["_law_piece_here"] []) (gSh : mg "_law_shown" = some (.ref fSh)) (kSh : PySem.W.keepIn K (.ref fSh) = true)
    (GRi : FnOk P w K mg base CX0 3 fRi fdRi ["_law_module", "_law_exports", "_law_aliases", "_law_pieces"] (spRight CM CP)) (bRi : Binds K fdRi ["_law_module", "_law_exports", "_law_aliases", "_law_pieces"] []) (gRi : mg "_law_right" = some (.ref fRi)) (kRi : PySem.W.keepIn K (.ref fRi) = true)
    (GCm : FnOk P w K mg base CX0 8 fCm fdCm ["_law_rows", "_law_pieces", "_law_module", "_law_more"] (spCmp CM CP)) (bCm : Binds K fdCm ["_law_rows", "_law_pieces", "_law_module", "_law_more"] []) (gCm : mg "_law_compared_right" = some (.ref fCm)) (kCm : PySem.W.keepIn K (.ref fCm) = true)
    (GP : FnOk P w K mg base (L2.CX P w) 7 fP fdP ["text"] (spParse K CB CM CP)) (bP : Binds K fdP ["text"] []) (gP : mg "parse_module" = some (.ref fP)) (kP : PySem.W.keepIn K (.ref fP) = true)
    (GM : FnOk P w K mg base CX0 3 fM fdM ["self", "other"] (spMEq CM CP)) (bM : Binds K fdM ["self", "other"] []) (sM : PySem.W.findIn K (.ref CM) "__eq__" = some (some (.ref fM))) (iM : PySem.W.isFn K (.ref fM) = true) (eM : PySem.W.mroIn K CM (.type "object") = some true) (eNe : PySem.W.findIn K (.ref CM) "__ne__" = some (some (.builtin "object.__ne__")))
    (GS : FnOk P w K mg base CX0 3 fS fdS ["self"] (spMStr CM CP)) (bS : Binds K fdS ["self"] []) (sS : PySem.W.findIn K (.ref CM) "__str__" = some (some (.ref fS))) (iS : PySem.W.isFn K (.ref fS) = true) :
    FnOk P w K mg base CX0 9 f fd ["_law_script"] (spLaw K) := by
  refine F.ok scLaw (fun vs H Q E h => ?_) (fun cdv A0 outer s H vs Q E hr h => ?_)
  · obtain ⟨a, ns, rfl, _⟩ := h
    rfl
  · obtain ⟨a, ns, rfl, hS, hlen, q⟩ := h
    obtain ⟨zr, zM, zm, zl, zs, zn⟩ := Z
    have hr1 : Room 1 _ := hr.mono (by decide)
    have hr3 : Room 3 _ := hr.mono (by decide)
    have hr4 : Room 4 _ := hr.mono (by decide)
    have hr5 : Room 5 _ := hr.mono (by decide)
    have hr7 : Room 7 _ := hr.mono (by decide)
    refine ⟨_, pss_cons (ps_for PassesOwn.never rfl (pi_range1 rfl zr (pa_cons (pe_callB (call_max2 rfl) (by rfl) zM (by decide +kernel) (pa_cons pe_int (pa_cons (pe_callB (call_min2 rfl) (by rfl) zm (by decide +kernel) (pa_cons (pe_callB call_len_seq (by rfl) zl PySem.boot_len (pa_cons (pv 0) pa_nil)) (pa_cons pe_int pa_nil))) pa_nil))) pa_nil)) (pg_name (i := 1) scLaw.nd rfl (Or.inl rfl)) (pss_cons (ps_set (i := 2) scLaw.nd rfl (.inl rfl) (pe_call GPo hr1 rfl gPo kPo bPo .nil pass0 (pa_cons ((pv 0)) (pa_cons ((pv 1)) pa_nil)))) (pss_cons (ps_asg (pe_tupS (pa_cons (pe_lstS pa_nil) (pa_cons (pe_lstS pa_nil) (pa_cons (pe_lstS pa_nil) (pa_cons (pe_lstS pa_nil) pa_nil))))) (pg_tup rfl (pgs_cons (pg_name (i := 3) scLaw.nd rfl (Or.inl rfl)) (pgs_cons (pg_name (i := 4) scLaw.nd rfl (Or.inr rfl)) (pgs_cons (pg_name (i := 5) scLaw.nd rfl (Or.inl rfl)) (pgs_cons (pg_name (i := 6) scLaw.nd rfl (Or.inl rfl)) pgs_nil)))))) (pss_cons (ps_for PassesOwn.never rfl (pi_range1 rfl zr (pa_cons (pe_call GT hr1 rfl gT kT bT .nil pass0 (pa_cons ((pv 2)) (pa_cons pe_int pa_nil))) pa_nil)) (pg_name (i := 7) scLaw.nd rfl (Or.inl rfl)) (pss_cons (ps_set (i := 8) scLaw.nd rfl (.inl rfl) (pe_call GT hr1 rfl gT kT bT .nil pass0 (pa_cons ((pv 2)) (pa_cons pe_int pa_nil)))) (pss_one (ps_if (pt_cmpR op_eq (pv 8) pe_int (nomark _)) (pss_cons (ps_setLc (i := 9) (own := [("_law_one", 10)]) (g := gName 10) (tt := tYes) rfl scLaw.nd rfl rfl (sw_true rfl rfl rfl (by decide +kernel)) (pi_range1 rfl zr (pa_cons (pe_op op_add pe_int (pe_call GT hr1 rfl gT kT bT .nil pass0 (pa_cons ((pv 2)) (pa_cons pe_int pa_nil)))) pa_nil)) (blkOk_by (N := NL10) (sc := defScope sLaw) (by decide +kernel)) (fun _ _ _ _ _ => pg_name (i := 10) scLaw.nd rfl (Or.inl rfl)) (fun _ _ _ _ _ => pts_nil) (fun _ _ _ _ _ => pe_op op_add_str pe_str (pe_callTy call_str_int (by rfl) zs b_str (pa_cons (pe_op op_add (pe_callB (id := "len") (r := rLenQ K) call_len_seq (by rfl) zl PySem.boot_len (pa_cons ((pv 4)) pa_nil)) ((pv 10))) pa_nil)))) (pss_cons (ps_set (i := 4) scLaw.nd rfl (.inr rfl) (pe_op op_catS ((pv 4)) ((pv 9)))) (pss_one (ps_expr (pe_bm PySem.F.plainAttrs_list PySem.F.slot_list_append PySem.F.type_list_append mt_append (pv 3) (pa_cons (pe_op op_add_str pe_str (pe_bm PySem.F.plainAttrs_str PySem.F.slot_str_join PySem.F.type_str_join mt_join pe_str (pa_cons ((pv 9)) pa_nil))) pa_nil)))))) (pss_one (ps_if (pt_cmpR op_eq (pv 8) pe_int (nomark _)) (pss_cons (ps_expr (pe_bm PySem.F.plainAttrs_list PySem.F.slot_list_append PySem.F.type_list_append mt_append (pv 5) (pa_cons (pe_tupS (pa_cons (pe_op op_add_str pe_str (pe_callTy call_str_int (by rfl) zs b_str (pa_cons (pe_callB (id := "len") (r := rLenQ K) call_len_seq (by rfl) zl PySem.boot_len (pa_cons ((pv 5)) pa_nil)) pa_nil))) (pa_cons (pe_ix (r := rIxL K) ix_list (pe_lstS (pa_cons pe_str (pa_cons pe_str (pa_cons pe_str pa_nil)))) (pe_call GT hr1 rfl gT kT bT .nil pass0 (pa_cons ((pv 2)) (pa_cons pe_int pa_nil))) (fun _ _ => rfl)) pa_nil))) pa_nil))) (pss_one (ps_expr (pe_bm PySem.F.plainAttrs_list PySem.F.slot_list_append PySem.F.type_list_append mt_append (pv 3) (pa_cons (pe_op op_add_str (pe_op op_add_str (pe_op op_add_str pe_str (pe_ix (r := rIxT K) ix_tup (pe_ix (r := rIxL K) ix_list ((pv 5)) (pe_un un_neg pe_int) (fun _ _ => rfl)) pe_int (fun _ _ => rfl))) pe_str) (pe_ix (r := rIxT K) ix_tup (pe_ix (r := rIxL K) ix_list ((pv 5)) (pe_un un_neg pe_int) (fun _ _ => rfl)) pe_int (fun _ _ => rfl))) pa_nil))))) (pss_one (ps_if (pt_cmpR op_lt (pe_callB (id := "len") (r := rLenQ K) call_len_seq (by rfl) zl PySem.boot_len (pa_cons ((pv 6)) pa_nil)) pe_int (nomark _)) (pss_cons (ps_expr (pe_bm PySem.F.plainAttrs_list PySem.F.slot_list_append PySem.F.type_list_append mt_append (pv 6) (pa_cons (pe_call GPi hr3 rfl gPi kPi bPi .nil pass0 (pa_cons ((pv 2)) (pa_cons (pe_op op_add_str pe_str (pe_callTy call_str_int (by rfl) zs b_str (pa_cons (pe_callB (id := "len") (r := rLenQ K) call_len_seq (by rfl) zl PySem.boot_len (pa_cons ((pv 6)) pa_nil)) pa_nil))) pa_nil))) pa_nil))) (pss_one (ps_set (i := 3) scLaw.nd rfl (.inl rfl) (pe_op op_catS ((pv 3)) (pe_call GSh hr1 rfl gSh kSh bSh .nil pass0 (pa_cons (pe_ix (r := rIxL K) ix_list ((pv 6)) (pe_un un_neg pe_int) (fun _ _ => rfl)) pa_nil)))))) pss_nil)))))))) (pss_cons (ps_set (i := 11) scLaw.nd rfl (.inl rfl) (pe_bm PySem.F.plainAttrs_str PySem.F.slot_str_join PySem.F.type_str_join mt_join pe_str (pa_cons ((pv 3)) pa_nil))) (pss_cons (ps_set (i := 12) scLaw.nd rfl (.inl rfl) (pe_call (E := fun _ _ _ => False) GP hr7 rfl gP kP bP .nil (passes_call takes0 (fun _ _ _ _ h => h)) (pa_cons ((pv 11)) pa_nil))) (pss_cons (ps_if (PW.pt (pw_or (pt_not (pt_val (pe_call GRi hr3 rfl gRi kRi bRi .nil pass0 (pa_cons ((pv 12)) (pa_cons ((pv 4)) (pa_cons ((pv 5)) (pa_cons ((pv 6)) pa_nil))))))) (pw_or1 (pt_cmpR (op_neO GM eM eNe sM iM bM pass0 hr4) (pe_call (E := fun _ _ _ => False) GP hr7 rfl gP kP bP .nil (passes_call takes0 (fun _ _ _ _ h => h)) (pa_cons (pe_callTy (r := rStrO CM (spMStr CM CP) (fun _ _ _ => False)) (call_strOwn GS sS iS bS pass0 hr5) (by rfl) zs b_str (pa_cons ((pv 12)) pa_nil)) pa_nil)) (pv 12) (nomark _))))) (pss_one (ps_ret pe_bl)) pss_nil) (pss_cons (ps_set (i := 13) scLaw.nd rfl (.inl rfl) (pe_op op_repS (pe_lstS (pa_cons (pe_op op_add_str pe_str (pe_bm PySem.F.plainAttrs_str PySem.F.slot_str_join PySem.F.type_str_join mt_join pe_str (pa_cons ((pv 4)) pa_nil))) pa_nil)) (pe_callTy call_int1 (by rfl) zn (by decide +kernel) (pa_cons (pe_cmpR (op_neD hr.units) (pv 4) (pe_lstS pa_nil) (nomark _)) pa_nil)))) (pss_cons (ps_set (i := 13) scLaw.nd rfl (.inl rfl) (pe_op op_catS ((pv 13)) (pe_lc (own := [("_law_one", 10), ("_law_other", 14)]) (g := gTup K 2 (gCons (gName 10) (gCons (gName 14) gNil))) (tt := tYes) rfl scLaw.nd (pi_list (pv 5)) (blkOk_by (N := NL10) (sc := defScope sLaw) (by decide +kernel)) (fun _ _ _ _ _ => pg_tup rfl (pgs_cons (pg_name (i := 10) scLaw.nd rfl (Or.inl rfl)) (pgs_cons (pg_name (i := 14) scLaw.nd rfl (Or.inl rfl)) pgs_nil))) (fun _ _ _ _ _ => pts_nil) (fun _ _ _ _ _ => pe_op op_add_str (pe_op op_add_str (pe_op op_add_str pe_str ((pv 10))) pe_str) ((pv 14)))))) (pss_cons (ps_for PassesOwn.never rfl (pi_list (pv 6)) (pg_name (i := 15) scLaw.nd rfl (Or.inl rfl)) (pss_one (ps_set (i := 13) scLaw.nd rfl (.inl rfl) (pe_op op_catS ((pv 13)) (pe_call GSh hr1 rfl gSh kSh bSh .nil pass0 (pa_cons ((pv 15)) pa_nil)))))) (pss_cons (ps_if (PW.pt (pw_or (pt_cmpR op_ne (pe_callTy (r := rStrO CM (spMStr CM CP) (fun _ _ _ => False)) (call_strOwn GS sS iS bS pass0 hr5) (by rfl) zs b_str (pa_cons ((pv 12)) pa_nil)) (pe_bm PySem.F.plainAttrs_str PySem.F.slot_str_join PySem.F.type_str_join mt_join pe_str (pa_cons ((pv 13)) pa_nil)) (nomark _)) (pw_or1 (pt_cmpR op_isnot_bl (pe_cmpR (op_eqO GM sM iM bM pass0 hr3) (pe_call (E := fun _ _ _ => False) GP hr7 rfl gP kP bP .nil (passes_call takes0 (fun _ _ _ _ h => h)) (pa_cons ((pv 11)) pa_nil)) (pv 12) (nomark _)) pe_bl (nomark _))))) (pss_one (ps_ret pe_bl)) pss_nil) (pss_cons (ps_set (i := 16) scLaw.nd rfl (.inl rfl) (pe_call (E := fun _ _ _ => False) GP hr7 rfl gP kP bP .nil (passes_call takes0 (fun _ _ _ _ h => h)) (pa_cons (pe_imp (t' := tMore) (pe_ifExp (pt_cmpR op_lt (pe_callB (id := "len") (r := rLenQ K) call_len_seq (by rfl) zl PySem.boot_len (pa_cons ((pv 6)) pa_nil)) pe_int (nomark _)) (pe_bm PySem.F.plainAttrs_str PySem.F.slot_str_join PySem.F.type_str_join mt_join pe_str (pa_cons (pe_op op_catS ((pv 3)) (pe_lstS (pa_cons pe_str (pa_cons pe_str (pa_cons pe_str pa_nil))))) pa_nil)) pe_str) ?more) pa_nil))) (pss_cons (ps_if (PW.pt (pw_and (pt_cmpR op_gt (pe_op op_add (pe_op op_add (pe_callB (id := "len") (r := rLenQ K) call_len_seq (by rfl) zl PySem.boot_len (pa_cons ((pv 6)) pa_nil)) (pe_callB (id := "len") (r := rLenQ K) call_len_seq (by rfl) zl PySem.boot_len (pa_cons ((pv 4)) pa_nil))) (pe_callB (id := "len") (r := rLenQ K) call_len_seq (by rfl) zl PySem.boot_len (pa_cons ((pv 5)) pa_nil))) pe_int (nomark _)) (pw_and1 (pt_cmpR (op_eqO GM sM iM bM pass0 hr3) (pv 16) (pv 12) (nomark _))))) (pss_one (ps_ret pe_bl)) pss_nil) (pss_one (ps_if (pt_not (pt_val (pe_call GCm hr rfl gCm kCm bCm .nil pass0 (pa_cons ((pv 3)) (pa_cons ((pv 6)) (pa_cons ((pv 12)) (pa_cons ((pv 16)) pa_nil))))))) (pss_one (ps_ret pe_bl)) pss_nil))))))))))))))) (pss_one (ps_ret pe_bl)), ?main⟩
    case more =>
      rintro σ H1 Q1 ⟨R, L, ts, j, n, k, l, pvs, e3, e6, hR, hL, lk, d, hj, q1⟩
      have wl := words_len d hj
      refine ⟨.ref L, e6, L, pvs, rfl, .inl (SqL.of hL), _, _, rfl, rfl, _, rfl, ?_⟩
      rw [lk]
      by_cases hk : k < 12
      · rw [decide_eq_true (show (k : Int) < 12 by omega)]
        obtain ⟨o1, o2, o3⟩ := d.moreA hj hk
        refine iteT ⟨rfl, .ref R, e3, (by show 3 ≤ 1000; decide), fun l3 H3 s3 n3 e3' => ⟨R, l3, _, _, rfl, rfl, s3 _ _ hR, e3', ?_, fun l4 H4 s4 n4 e4 => ?_⟩⟩
        · rw [List.length_map, List.length_map]
          show _ + 3 ≤ 1000
          omega
        · have ew : ((TG.wordsOf ts).map line).map V.str ++ [V.str "data last", V.str "5", V.str "end"] = ((TG.wordsOf (ts ++ [.pc lastP])).map line).map V.str := by
            rw [words_app, words_one, List.map_append, last_lines, List.map_append]
            rfl
          have e4 : H4 l4 = some (.lst (((TG.wordsOf ts).map line).map V.str ++ [V.str "data last", V.str "5", V.str "end"])) := e4
          rw [ew] at e4
          exact ⟨TG.NL, l4, (TG.wordsOf (ts ++ [.pc lastP])).map line, rfl, rfl, .inl (SqL.of e4), lines_sum o2, q1 H4 _ (s3.trans s4) o1 o2 o3⟩
      · rw [decide_eq_false (show ¬ (k : Int) < 12 by omega)]
        obtain ⟨o1, o2, o3⟩ := d.moreB hk
        exact iteF (q1 H1 [] (Same.refl H1) o1 o2 o3)
    case main =>
      have hJ : ∀ L : Int, 0 ≤ L → 1 ≤ (if (if (6 : Int) < L then 6 else L) > 1 then (if (6 : Int) < L then 6 else L) else 1) ∧ (if (if (6 : Int) < L then 6 else L) > 1 then (if (6 : Int) < L then 6 else L) else 1) ≤ 6 := by
        intro L hL
        repeat' split
        all_goals omega
      have hJ1 := hJ ((ns.map V.int).length : Int) (Int.natCast_nonneg _)
      refine ⟨.ref a, rfl, a, _, rfl, .inl hS, _, _, rfl, _, _, rfl, _, rfl, ?_, ?_, ?_⟩
      · show -(2 ^ 62) ≤ (if (if (6 : Int) < ((ns.map V.int).length : Int) then 6 else ((ns.map V.int).length : Int)) > 1 then (if (6 : Int) < ((ns.map V.int).length : Int) then 6 else ((ns.map V.int).length : Int)) else 1)
        omega
      · show (if (if (6 : Int) < ((ns.map V.int).length : Int) then 6 else ((ns.map V.int).length : Int)) > 1 then (if (6 : Int) < ((ns.map V.int).length : Int) then 6 else ((ns.map V.int).length : Int)) else 1) < 2 ^ 62
        omega
      refine for_range (fun i σ H' => ∃ y1 y2 y3 y4 y5 y6 y7 y8 y9 y10 y11 y12 y13 y14 y15 y16, σ = [some (.ref a), y1, y2, y3, y4, y5, y6, y7, y8, y9, y10, y11, y12, y13, y14, y15, y16] ∧ Same H H') ⟨_, _, _, _, _, _, _, _, _, _, _, _, _, _, _, _, rfl, Same.refl H⟩ ?turn (fun σ H' _ => q H')
      rintro i σ H1 hi ⟨y1, y2, y3, y4, y5, y6, y7, y8, y9, y10, y11, y12, y13, y14, y15, y16, rfl, s1⟩
      have hi6 : i < 6 := by
        have : i < (if (if (6 : Int) < ((ns.map V.int).length : Int) then 6 else ((ns.map V.int).length : Int)) > 1 then (if (6 : Int) < ((ns.map V.int).length : Int) then 6 else ((ns.map V.int).length : Int)) else 1).toNat := hi
        omega
      clear hi hJ hJ1
      refine ⟨.ref a, rfl, .int (0 + (i : Int)), rfl, a, ns, i, by simp, s1.seq hS, by omega, hlen, fun H2 p s2 np PA2 => ?_⟩
      refine ⟨(by show 0 ≤ 1000; decide), fun R0 H3 s3 n3 e3 => ⟨(by show 0 ≤ 1000; decide), fun X0 H4 s4 n4 e4 => ⟨(by show 0 ≤ 1000; decide), fun A H5 s5 n5 e5 => ⟨(by show 0 ≤ 1000; decide), fun L H6 s6 n6 e6 => ⟨(by show 4 ≤ 1000; decide), fun T7 H7 s7 n7 e7 => ?_⟩⟩⟩⟩⟩
      have P3 := PA2.mono s3
      have P4 := P3.mono s4
      have P5 := P4.mono s5
      have s47 := s4.trans (s5.trans (s6.trans s7))
      have s57 := s5.trans (s6.trans s7)
      have s67 := s6.trans s7
      have W0 : Wk p R0 X0 A L [] [] [] [] H1 H7 := ⟨s2.trans (s3.trans s47), P3.mono s47, s47 _ _ e3, s57 _ _ e4, ⟨[], s67 _ _ e5, .nil⟩, ⟨[], s7 _ _ e6, .nil⟩, np, same_none s2 n3, same_none (s2.trans s3) n4, same_none (s2.trans (s3.trans s4)) n5, same_none (s2.trans (s3.trans (s4.trans s5))) n6,
        pat_ne PA2 n3, pat_ne P3 n4, pat_ne P4 n5, pat_ne P5 n6, ne_of_none e3 n4, ne_of_none (s4 _ _ e3) n5, ne_of_none ((s4.trans s5) _ _ e3) n6, ne_of_none e4 n5, ne_of_none (s5 _ _ e4) n6, ne_of_none e5 n6⟩
      refine ⟨T7, _, rfl, SqT.of e7, rfl, _, _, rfl, _, _, rfl, _, _, rfl, _, _, rfl, rfl, ?_⟩
      clear e3 e4 e5 e6 e7 s47 s57 s67 P3 P4 P5 s3 s4 s5 s6 s7
      refine ⟨.ref p, rfl, p, 16, rfl, by decide, by decide, W0.pool, fun H8 r o8 P8 h8 => ⟨(r : Int), rfl, by omega, by omega, ?_⟩⟩
      have W8 := W0.off o8 P8
      clear W0 o8
      refine for_range (n := ((r : Int)).toNat) (fun j σ H' => ∃ ts n k l R X z7 z8 z9 z10 z11 z12 z13 z14 z15 z16, σ = [some (.ref a), some (.int (0 + (i : Int))), some (.ref p), some (.ref R), some (.ref X), some (.ref A), some (.ref L), z7, z8, z9, z10, z11, z12, z13, z14, z15, z16] ∧ Dr ts j n k l ∧ Wk p R X A L ((TG.wordsOf ts).map line) (putAll ts st0).ex (putAll ts st0).al (putAll ts st0).ps H1 H') ⟨[], 0, 0, 0, R0, X0, _, _, _, _, _, _, _, _, _, _, rfl, dr0, W8⟩ ?draw ?done
      case draw =>
        rintro j σ H9 hj' ⟨ts, n, k, l, R, X, z7, z8, z9, z10, z11, z12, z13, z14, z15, z16, rfl, d, W9⟩
        have hj : j < 15 := by omega
        have wl := words_len d (by omega)
        have lal := len_of d.al
        have lps := len_of d.ps
        have n3 := d.n3
        have l1 := d.l1
        have k12 := d.k12
        have lex : (putAll ts st0).ex.length = n := by rw [d.ex, List.length_map, List.length_range]
        refine ⟨.ref p, rfl, p, 4, rfl, by decide, by decide, W9.pool, fun H10 wy o10 P10 h10 => ?_⟩
        have W10 := W9.off o10 P10
        clear W9 o10
        refine ⟨.int (wy : Int), rfl, rfl, _, rfl, ite2 (fun hc => ?_) (fun hc => ?_)⟩
        · -- exports
          refine ⟨.ref p, rfl, p, 3, rfl, by decide, by decide, P10, fun H11 m0 o11 P11 h11 => ⟨_, _, rfl, rfl, _, rfl, by omega, by omega, fun D hD => ?_⟩⟩
          have W11 := W10.off o11 P11
          have lX : ((putAll ts st0).ex.map V.str).length = n := by rw [List.length_map]; exact lex
          refine lc_range (n := (1 + (m0 : Int)).toNat) (fun c H' => Same H11 H' ∧ H' D = some (.lst ((List.range c).map fun c => V.str (eN (n + c))))) ⟨same_new hD, upd_same⟩ (fun c H12 hc12 ⟨s12, e12⟩ => ?_) (fun H12 ⟨s12, e12⟩ => ?_)
          · have hn := (e_name (n + c) (by omega)).2
            have hwl := (word_of hn).len
            have c1 : ("e" : Str).length = 1 := by decide +kernel
            have el : (eN (n + c)).length = ("e" : Str).length + (nsI (n + c)).length := app_len _ _
            refine ⟨rfl, .ref X, rfl, X, _, rfl, .inl (SqL.of (s12 _ _ W11.hX)), .int (0 + (c : Int)), rfl, _, _, rfl, rfl, _, rfl, ?_, _, _, rfl, rfl, ?_, ?_⟩
            · rw [lX]
              exact log_s (by omega)
            · rw [lX, show ((toString ((n : Int) + (0 + (c : Int))) : String) : Str) = nsI (n + c) from int_sum n c]
              exact sl1000 (by omega)
            · rw [lX, show ((toString ((n : Int) + (0 + (c : Int))) : String) : Str) = nsI (n + c) from int_sum n c]
              refine ⟨_, e12, ?_, fun b o eb => ?_, ?_⟩
              · rw [List.length_map, List.length_range]
                exact small1000 (by omega)
              · rw [upd_ne (ne_of_none eb hD)]
                exact s12 _ _ eb
              · rw [upd_same, List.range_succ, List.map_append]
                rfl
          · generalize hm1 : (1 + (m0 : Int)).toNat = m1 at e12
            have hm1a : 1 ≤ m1 := by omega
            have hm1b : m1 ≤ 3 := by omega
            have W12 := W11.sm s12
            have ees : ((List.range m1).map fun c => V.str (eN (n + c))) = ((List.range m1).map fun c => eN (n + c)).map V.str := by rw [List.map_map]; rfl
            rw [ees] at e12
            have nes : ((List.range m1).map fun c => eN (n + c)) ≠ [] := fun z => by
              have := congrArg List.length z
              simp at this
              omega
            have les : ((List.range m1).map fun c => eN (n + c)).length = m1 := by rw [List.length_map, List.length_range]
            have w20 : ∀ z ∈ (List.range m1).map fun c => eN (n + c), z.length ≤ 20 := fun z hz => by
              obtain ⟨c, hc, rfl⟩ := List.mem_map.mp hz
              have := List.mem_range.mp hc
              exact (word_of (e_name (n + c) (by omega)).2).len
            have dS := d.exS hj hm1a hm1b
            generalize hes : ((List.range m1).map fun c => eN (n + c)) = es at e12 nes les w20 dS
            refine ⟨.ref X, rfl, .ref D, rfl, X, D, _, _, rfl, rfl, W12.hX, e12, ?_, fun X' H13 s13 n13 e13 => ?_⟩
            · rw [List.length_map, List.length_map, lex, les]
              omega
            rw [← List.map_append] at e13
            have W13 := W12.newX s13 n13 e13
            have hsum := lens_le w20
            have l1' : TG.SP.length = 1 := by decide +kernel
            have hjl := join_le tl_SP es
            have hsl := sum_le (fun z : Str => z.length) 20 w20
            refine ⟨.ref R, rfl, .inl ⟨rfl, _, SqL.of W13.hR⟩, rfl, .ref D, rfl, TG.SP, D, es, rfl, rfl, .inl (SqL.of (s13 _ _ e12)), by omega, _, _, rfl, rfl, ?_, R, _, _, rfl, rfl, W13.hR, ?_, ?_⟩
            · have : ("export " : Str).length = 7 := by decide +kernel
              rw [this]
              exact sl1000 (by omega)
            · rw [List.length_map, List.length_map]
              exact small1000 (by omega)
            · have ep : putAll (ts ++ [.ex es]) st0 = { putAll ts st0 with ex := (putAll ts st0).ex ++ es } := by rw [putAll_app]; rfl
              refine ⟨ts ++ [.ex es], n + m1, k, l, R, X', _, _, _, _, _, _, _, _, _, _, rfl, dS, ?_⟩
              rw [ep]
              refine W13.addR ?_
              rw [words_app, words_one, ← line_ex nes]
              simp only [List.map_append, itW, List.map_cons, List.map_nil]
        refine ⟨.int (wy : Int), rfl, rfl, _, rfl, ite2 (fun hc2 => ?_) (fun hc2 => ?_)⟩
        · -- an alias
          obtain ⟨avs, a1, a2⟩ := W10.hA
          have lav : avs.length = l := by rw [← a2.length]; exact lal
          have hq := q_name l (by omega)
          have hwl := (word_of hq.2).len
          have c1 : ("q" : Str).length = 1 := by decide +kernel
          have el : (qN l).length = ("q" : Str).length + (nsI l).length := app_len _ _
          refine ⟨.ref A, rfl, .inl ⟨rfl, _, SqL.of a1⟩, .ref A, rfl, A, avs, rfl, .inl (SqL.of a1), _, rfl, ?_, _, _, rfl, rfl, ?_, ?_⟩
          · rw [lav]
            exact log_s (by omega)
          · rw [lav]
            show ("q" : Str).length + (nsI l).length ≤ _
            exact sl1000 (by omega)
          rw [lav]
          refine ⟨(by show 3 ≤ 1000; decide), fun Z H11 s11 n11 e11 => ⟨.ref p, rfl, p, 3, rfl, by decide, by decide, P10.mono s11, fun H12 r3 o12 P12 h12 => ?_⟩⟩
          have nZ := pat_ne P10 n11
          have hb : (AW.map V.str)[r3]? = some (.str (AW[r3]'h12)) := by
            rw [List.getElem?_map, List.getElem?_eq_getElem (show r3 < AW.length from h12)]
            rfl
          have mb : AW[r3]'h12 ∈ AW := List.getElem_mem _
          generalize AW[r3]'h12 = b at hb mb
          have hbw := (word_of (al_words b mb).2).len
          refine ⟨Z, AW.map V.str, (r3 : Int), .str b, rfl, rfl, SqL.of (o12 _ _ nZ e11), atI_nat hb, (by show 2 ≤ 1000; decide), fun t H13 s13 n13 e13 => ?_⟩
          have W13 := ((W10.sm s11).off o12 P12).sm s13
          have f13 : Fix 0 H10 H13 := ((Fix.of s11).trans (fix_off o12 (P10.mono s11))).trans (Fix.of s13)
          have a1' := s13 _ _ (o12 _ _ W10.Ap (s11 _ _ a1))
          have a2' : Paired (AliAt H13) (putAll ts st0).al avs := pair_mono (fun _ _ h => h.mono f13) a2
          have e13 : H13 t = some (.tup [.str (qN l), .str b]) := e13
          refine ⟨A, avs, _, rfl, rfl, a1', ?_, ?_⟩
          · exact small1000 (by omega)
          have W14 := W13.addA a1' a2' (q := (qN l, b)) e13
          have eA : upd H13 A (.lst (avs ++ [.ref t])) A = some (.lst (avs ++ [.ref t])) := upd_same
          have nAt : t ≠ A := ne_of e13 a1' (by intro z; cases z)
          have et : upd H13 A (.lst (avs ++ [.ref t])) t = some (.tup [.str (qN l), .str b]) := by rw [upd_ne nAt]; exact e13
          generalize upd H13 A (.lst (avs ++ [.ref t])) = H14 at W14 eA et
          have c2 : ("alias " : Str).length = 6 := by decide +kernel
          have c3 : (" " : Str).length = 1 := by decide +kernel
          refine ⟨.ref R, rfl, .inl ⟨rfl, _, SqL.of W14.hR⟩, .ref A, rfl, 1, rfl, A, _, -1, .ref t, rfl, rfl, SqL.of eA, at_last _ _, t, _, 0, .str (qN l), rfl, rfl, SqT.of et, atI_nat (j := 0) rfl, _, _, rfl, rfl, ?_, _, _, rfl, rfl, ?_, .ref A, rfl, 1, rfl, A, _, -1, .ref t, rfl, rfl, SqL.of eA, at_last _ _, t, _, 1, .str b, rfl, rfl, SqT.of et, atI_nat (j := 1) rfl, _, _, rfl, rfl, ?_, R, _, _, rfl, rfl, W14.hR, ?_, ?_⟩
          · exact sl1000 (by omega)
          · rw [app_len]; exact sl1000 (by omega)
          · rw [app_len, app_len]; exact sl1000 (by omega)
          · rw [List.length_map, List.length_map]
            exact small1000 (by omega)
          · have ep : putAll (ts ++ [.al (qN l) b]) st0 = { putAll ts st0 with al := (putAll ts st0).al ++ [(qN l, b)], nm := (putAll ts st0).nm ++ [qN l] } := by rw [putAll_app]; rfl
            refine ⟨ts ++ [.al (qN l) b], n, k, l + 1, R, X, _, _, _, _, _, _, _, _, _, _, rfl, d.alS hj mb, ?_⟩
            rw [ep]
            refine W14.addR ?_
            rw [words_app, words_one]
            simp only [List.map_append, itW, List.map_cons, List.map_nil]
            rw [line_al]
            rfl
        · -- a piece
          obtain ⟨pvs, p1, p2⟩ := W10.hL
          have lpv : pvs.length = k := by rw [← p2.length]; exact lps
          refine ⟨.ref L, rfl, L, pvs, rfl, .inl (SqL.of p1), _, _, rfl, rfl, _, rfl, ite2 (fun hc3 => ?_) (fun hc3 => ?_)⟩
          · have hk : k < 12 := by
              have := of_decide_eq_true hc3
              rw [lpv] at this
              omega
            have hq := p_name k (by omega)
            have hwl := (word_of hq.2).len
            have c1 : ("p" : Str).length = 1 := by decide +kernel
            have el : (pN k).length = ("p" : Str).length + (nsI k).length := app_len _ _
            refine ⟨.ref L, rfl, .inl ⟨rfl, _, SqL.of p1⟩, .ref p, rfl, .ref L, rfl, L, pvs, rfl, .inl (SqL.of p1), _, rfl, ?_, _, _, rfl, rfl, ?_, ?_⟩
            · rw [lpv]
              exact log_s (by omega)
            · rw [lpv]
              show ("p" : Str).length + (nsI k).length ≤ _
              exact sl1000 (by omega)
            rw [lpv]
            refine ⟨p, pN k, rfl, P10, fun H11 v pc o11 P11 hv hn hg => ?_⟩
            have W11 := W10.off o11 P11
            have p1' := o11 _ _ W10.Lp p1
            have p2' : Paired (PcTAt H11) (putAll ts st0).ps pvs := pair_mono (fun _ _ h => h.mono (fix_off (CP := 0) o11 P10)) p2
            refine ⟨L, pvs, v, rfl, rfl, p1', small1000 (by omega), ?_⟩
            have W12 := W11.addL p1' p2' hv
            have eL : upd H11 L (.lst (pvs ++ [v])) L = some (.lst (pvs ++ [v])) := upd_same
            have hv12 : PcTAt (upd H11 L (.lst (pvs ++ [v]))) pc v := PcTAt.mono (CP := 0) (Fix.lst p1') hv
            generalize upd H11 L (.lst (pvs ++ [v])) = H12 at W12 eL hv12
            refine ⟨.ref R, rfl, .ref L, rfl, 1, rfl, L, _, -1, v, rfl, rfl, SqL.of eL, at_last _ _, v, pc, rfl, hv12, hg, by rw [hn]; exact hwl, fun H13 l13 s13 n13 e13 => ⟨R, l13, _, _, rfl, rfl, s13 _ _ W12.hR, e13, ?_, fun R' H14 s14 n14 e14 => ?_⟩⟩
            · rw [List.length_map, List.length_map, List.length_map, List.length_map]
              have := (pc_words hg (by rw [hn]; exact hq.2)).2.2
              omega
            rw [← List.map_append] at e14
            have W14 := (W12.sm s13).newR s14 n14 e14
            have ep : putAll (ts ++ [.pc pc]) st0 = { putAll ts st0 with ps := (putAll ts st0).ps ++ [pc], nm := (putAll ts st0).nm ++ [pc.name] } := by rw [putAll_app]; rfl
            refine ⟨ts ++ [.pc pc], n, k + 1, l, R', X, _, _, _, _, _, _, _, _, _, _, rfl, d.pcS hj hk hn hg, ?_⟩
            rw [ep, words_app, words_one, List.map_append]
            exact W14
          · exact ⟨ts, n, k, l, R, X, _, _, _, _, _, _, _, _, _, _, rfl, d.mono, W10⟩
      case done =>
        rintro σ H9 ⟨ts, n, k, l, R, X, z7, z8, z9, z10, z11, z12, z13, z14, z15, z16, rfl, d, W9⟩
        have er : ((r : Int)).toNat = r := by omega
        rw [er] at d
        have hj : r ≤ 15 := by omega
        have wl := words_len d hj
        have lal := len_of d.al
        have lps := len_of d.ps
        have n3 := d.n3
        have l1 := d.l1
        have k12 := d.k12
        have sd := d.std hj
        have sg := d.stg hj
        obtain ⟨nm1, nm2, nm3⟩ := d.names hj
        have lex : (putAll ts st0).ex.length = n := by rw [d.ex, List.length_map, List.length_range]
        have dl := d.lines (by omega)
        obtain ⟨w1, ⟨nmW, w2⟩, w3⟩ := d.whole hj
        have em : modW (putAll ts st0) = TG.wordsOf (KD.whole (putAll ts st0)) := (modW_eq _).symm
        -- the module
        refine ⟨rfl, .ref R, rfl, TG.NL, R, (TG.wordsOf ts).map line, rfl, rfl, .inl (SqL.of W9.hR), lines_sum dl, ?_⟩
        refine ⟨_, rfl, _, rfl, .inr ⟨_, rfl, fit_text dl, fun i e => (perr d.ok dl e).elim, fun st e H10 m s10 n10 hm' => ?_⟩⟩
        obtain rfl := pok d.ok dl e
        have hm := toR hm'
        clear hm' e
        have W10 := W9.sm s10
        clear W9
        obtain ⟨avs, a1, a2⟩ := W10.hA
        obtain ⟨pvs, p1, p2⟩ := W10.hL
        have lav : avs.length = l := by rw [← a2.length]; exact lal
        have lpv : pvs.length = k := by rw [← p2.length]; exact lps
        have hm0 := hm
        obtain ⟨_, dx, tp, te, ta, nd, mvs, mavs, kvs, e0, hmi, _⟩ := hm0
        cases e0
        -- right
        refine ⟨.ref m, rfl, .ref X, rfl, .ref A, rfl, .ref L, rfl, m, X, A, L, putAll ts st0, avs, pvs, rfl, hm, W10.hX, a1, a2, p1, p2, sd, fun p hp => (word_of (nm3 p hp).1).ok, by omega, by omega, fun H11 s11 => ⟨_, rfl, iteF ?_⟩⟩
        -- read again
        refine ⟨.ref m, rfl, m, dx, _, rfl, s11 _ _ hmi, m, putAll ts st0, rfl, hm.mono (Ke.of s11), sg, fun H12 s12 => ⟨_, rfl, ?_⟩⟩
        have s02 : Same H10 H12 := s11.trans s12
        rw [em]
        refine ⟨_, rfl, .inr ⟨_, rfl, fit_text w3, fun i e => (perr w1 w3 e).elim, fun st e H13 m2 s13 n13 hm2' => ?_⟩⟩
        obtain rfl := pok w1 w3 e
        have hm2 := toR hm2'
        clear hm2' e
        rw [w2] at hm2
        have hm20 := hm2
        obtain ⟨_, dx2, tp2, te2, ta2, nd2, mvs2, mavs2, kvs2, e0, hmi2, _⟩ := hm20
        cases e0
        have s03 : Same H10 H13 := s02.trans s13
        refine ⟨.ref m, rfl, m2, m, dx2, dx, _, _, rfl, rfl, hmi2, s03 _ _ hmi, m2, m, _, _, rfl, hm2, hm.mono (Ke.of s03), ⟨sd.ex, sd.al, sd.ps⟩, sd, fun i p p' h1 h2 => ?_, fun H14 s14 => ⟨_, rfl, _, rfl, ?_⟩⟩
        · have h1 : (putAll ts st0).ps[i]? = some p := h1
          rw [h2] at h1
          exact (Option.some.inj h1).symm
        have eqT : eqMo ⟨(putAll ts st0).ps, (putAll ts st0).ex, (putAll ts st0).al, nmW, none⟩ (putAll ts st0) = true := by
          unfold eqMo
          simp
        rw [eqT]
        refine iteF ?_
        have s04 : Same H10 H14 := s03.trans s14
        clear hm2 hmi2 s11 s12 s13 s14 s02 s03
        -- the whole text: exports
        have l1' : TG.SP.length = 1 := by decide +kernel
        have hsum := lens_le sg.ex
        have hjl := join_le tl_SP (putAll ts st0).ex
        have hsl := sum_le (fun z : Str => z.length) 20 sg.ex
        refine ⟨rfl, .ref X, rfl, TG.SP, X, (putAll ts st0).ex, rfl, rfl, .inl (SqL.of (s04 _ _ W10.hX)), by omega, _, _, rfl, rfl, ?_, (by show 1 ≤ 1000; decide), fun E0 H15 s15 n15 e15 => ?_⟩
        · have : ("export " : Str).length = 7 := by decide +kernel
          rw [this]
          exact sl1000 (by omega)
        refine ⟨.ref X, rfl, (by show 0 ≤ 1000; decide), fun E1 H16 s16 n16 e16 => ?_⟩
        have s06 := s04.trans (s15.trans s16)
        have e16 : H16 E1 = some (.lst (([] : List Str).map V.str)) := e16
        refine ⟨.list ((putAll ts st0).ex.map PyData.str), .list (([] : List Str).map PyData.str), .lst (SqL.of (s06 _ _ W10.hX)) (dp_txs _), .lst (SqL.of e16) (dp_txs _), (ly_lst (ly_txs sd.ex)).sh (by decide), (ly_lst (ly_txs (l := []) (by intro z h; cases h))).sh (by decide), ?_⟩
        rw [eqv_txs]
        refine .inr ⟨_, rfl, E0, _, _, rfl, rfl, s16 _ _ e15, ?_, ?_, ?_, fun W0 H17 s17 n17 e17 => ?_⟩
        · split <;> decide
        · split <;> decide
        · show 1 * _ ≤ 1000
          split <;> decide
        have e17 : H17 W0 = some (.lst (((LE (putAll ts st0).ex).map line).map V.str)) := by
          rw [e17]
          congr 2
          unfold LE
          by_cases hx : (putAll ts st0).ex = []
          · rw [if_pos hx, decide_eq_true hx]
            rfl
          · rw [if_neg hx, decide_eq_false hx]
            show (List.replicate 1 [V.str _]).flatten = [V.str (line (("export" : Str) :: (putAll ts st0).ex))]
            rw [line_ex hx]
            rfl
        have s07 := s06.trans s17
        clear e15 e16 s15 s16 s17 s06
        -- aliases
        have n0 : ∀ {b : Addr} {o : HO}, H10 b = some o → H17 b = some o := fun h => s07 _ _ h
        refine ⟨.ref W0, rfl, .ref A, rfl, A, rfl, ⟨_, SqL.of (s07 _ _ a1)⟩, fun D hD => ?_⟩
        refine lc_list (xs := avs) (fun c H' => Same H17 H' ∧ H' D = some (.lst (((LA ((putAll ts st0).al.take c)).map line).map V.str))) ⟨same_new hD, upd_same⟩ (fun c H' _ h => SqL.of (h.1 _ _ (s07 _ _ a1))) (fun c y H18 hy ⟨s18, e18⟩ => ?_) (fun H18 ⟨s18, e18⟩ => ?_)
        · obtain ⟨q0, hq0, t, rfl, et⟩ := pair_get a2 hy
          have et' := s18 _ _ (s07 _ _ et)
          have hcl := (List.getElem?_eq_some_iff.mp hq0).1
          have hw := sg.al q0 (List.mem_of_getElem? hq0)
          have c2 : ("alias " : Str).length = 6 := by decide +kernel
          have c3 : (" " : Str).length = 1 := by decide +kernel
          refine ⟨t, [.str q0.1, .str q0.2], rfl, SqT.of et', rfl, _, [.str q0.2], rfl, _, [], rfl, rfl, rfl, .str q0.1, rfl, _, _, rfl, rfl, ?_, _, _, rfl, rfl, ?_, .str q0.2, rfl, _, _, rfl, rfl, ?_, _, e18, ?_, fun b o eb => ?_, ?_⟩
          · exact sl1000 (by omega)
          · rw [app_len]; exact sl1000 (by omega)
          · rw [app_len, app_len]; exact sl1000 (by omega)
          · unfold LA
            rw [List.length_map, List.length_map, List.length_map, List.length_take]
            exact small1000 (by omega)
          · rw [upd_ne (ne_of_none eb hD)]
            exact s18 _ _ eb
          · rw [upd_same, take_one hq0, la_one]
            simp only [List.map_append, List.map_cons, List.map_nil]
            rw [line_al]
            rfl
        rw [lav, ← lal, List.take_length] at e18
        have hLEn : (LE (putAll ts st0).ex).length ≤ 1 := by unfold LE; split <;> simp
        have hLAn : (LA (putAll ts st0).al).length = l := by unfold LA; rw [List.length_map]; exact lal
        refine ⟨W0, D, _, _, rfl, rfl, s18 _ _ e17, e18, ?_, fun W1 H19 s19 n19 e19 => ?_⟩
        · rw [List.length_map, List.length_map, List.length_map, List.length_map]
          omega
        rw [← List.map_append, ← List.map_append] at e19
        have s09 := s07.trans (s18.trans s19)
        clear e17 e18 hD n0 s18 s19 s07
        -- pieces
        refine ⟨.ref L, rfl, L, rfl, ⟨_, SqL.of (s09 _ _ p1)⟩, ?_⟩
        refine for_list (xs := pvs) (fun c σ H' => ∃ Wc z7 z8 z9 z10 z14 z15 z16, σ = [some (.ref a), some (.int (0 + (i : Int))), some (.ref p), some (.ref R), some (.ref X), some (.ref A), some (.ref L), z7, z8, z9, z10, some (.str (textOf (TG.wordsOf ts))), some (.ref m), some (.ref Wc), z14, z15, z16] ∧ Same H19 H' ∧ H' Wc = some (.lst (((LE (putAll ts st0).ex ++ (LA (putAll ts st0).al ++ LP ((putAll ts st0).ps.take c))).map line).map V.str))) ⟨W1, _, _, _, _, _, _, _, rfl, Same.refl H19, by
            rw [List.take_zero]
            show H19 W1 = some (.lst (((LE (putAll ts st0).ex ++ (LA (putAll ts st0).al ++ [])).map line).map V.str))
            rw [List.append_nil]
            exact e19⟩ (fun c σ H' _ ⟨_, _, _, _, _, _, _, _, _, s', _⟩ => SqL.of (s' _ _ (s09 _ _ p1))) ?pieces ?after
        case pieces =>
          rintro c y σ H20 hy ⟨Wc, z7, z8, z9, z10, z14, z15, z16, rfl, s20, e20⟩
          obtain ⟨pc, hpc, hv⟩ := pair_get p2 hy
          have hcl := (List.getElem?_eq_some_iff.mp hpc).1
          have hgp := sg.ps pc (List.mem_of_getElem? hpc)
          have hLP : (LP ((putAll ts st0).ps.take c)).length ≤ 216 := by
            have := lp_len (l := (putAll ts st0).ps.take c) fun p hp => (sg.ps p (List.mem_of_mem_take hp)).1.few
            rw [List.length_take] at this
            omega
          refine ⟨.ref Wc, rfl, y, rfl, y, pc, rfl, hv.mono (CP := 0) (Fix.of (s09.trans s20)), hgp.1, hgp.2, fun H21 l21 s21 n21 e21 => ⟨Wc, l21, _, _, rfl, rfl, s21 _ _ e20, e21, ?_, fun W2 H22 s22 n22 e22 => ?_⟩⟩
          · have := (pc_words hgp.1 (nm3 pc (List.mem_of_getElem? hpc)).1).2.2
            rw [List.length_map, List.length_map, List.length_map, List.length_map, List.length_append, List.length_append]
            omega
          refine ⟨W2, _, _, _, _, _, _, _, rfl, s20.trans (s21.trans s22), ?_⟩
          rw [e22, take_one hpc, lp_one]
          simp only [List.map_append, List.append_assoc]
        case after =>
          rintro σ H20 ⟨Wc, z7, z8, z9, z10, z14, z15, z16, rfl, s20, e20⟩
          rw [lpv, ← lps, List.take_length] at e20
          have e20 : H20 Wc = some (.lst (((modW (putAll ts st0)).map line).map V.str)) := e20
          have s010 := s09.trans s20
          -- the text is the one that str tells
          refine ⟨.ref m, rfl, m, dx, _, rfl, s010 _ _ hmi, m, putAll ts st0, rfl, hm.mono (Ke.of s010), sg, fun H21 s21 => ⟨_, rfl, rfl, .ref Wc, rfl, TG.NL, Wc, (modW (putAll ts st0)).map line, rfl, rfl, .inl (SqL.of (s21 _ _ e20)), by rw [em]; exact lines_sum w3, rfl, _, rfl, iteNS rfl ?_⟩⟩
          have s011 := s010.trans s21
          -- equal to itself, read anew
          refine ⟨_, rfl, _, rfl, .inr ⟨_, rfl, fit_text dl, fun i e => (perr d.ok dl e).elim, fun st e H22 m3 s22 n22 hm3' => ?_⟩⟩
          obtain rfl := pok d.ok dl e
          have hm3 := toR hm3'
          clear hm3' e
          have hm30 := hm3
          obtain ⟨_, dx3, tp3, te3, ta3, nd3, mvs3, mavs3, kvs3, e0, hmi3, _⟩ := hm30
          cases e0
          have s012 := s011.trans s22
          refine ⟨.ref m, rfl, m3, m, dx3, dx, _, _, rfl, rfl, hmi3, s012 _ _ hmi, m3, m, _, _, rfl, hm3, hm.mono (Ke.of s012), sd, sd, fun i p p' h1 h2 => ?_, fun H23 s23 => ⟨_, rfl, ?_⟩⟩
          · rw [h2] at h1
            exact (Option.some.inj h1).symm
          have eqS : eqMo (putAll ts st0) (putAll ts st0) = true := by
            unfold eqMo
            simp
          rw [eqS]
          refine ⟨_, _, rfl, rfl, _, rfl, iteF ?_⟩
          have s013 := s012.trans s23
          have W13 := W10.sm s013
          have p1' := s013 _ _ p1
          have p2' : Paired (PcTAt H23) (putAll ts st0).ps pvs := pair_mono (fun _ _ h => h.mono (CP := 0) (Fix.of s013)) p2
          have hm13 := hm.mono (CM := CM) (CP := CP) (Ke.of s013)
          have hmi13 := s013 _ _ hmi
          clear hm3 hmi3 s20 s21 s22 s23 s010 s011 s012 e20
          -- one piece more
          refine ⟨R, L, ts, r, n, k, l, pvs, rfl, rfl, W13.hR, p1', lpv, d, hj, fun H24 ts' s24 o1 o2 mo => ?_⟩
          refine ⟨_, rfl, .inr ⟨_, rfl, fit_text o2, fun i e => (perr o1 o2 e).elim, fun st e H25 m4 s25 n25 hm4' => ?_⟩⟩
          obtain rfl := pok o1 o2 e
          have hm4 := toR hm4'
          clear hm4' e
          have hm40 := hm4
          obtain ⟨_, dx4, tp4, te4, ta4, nd4, mvs4, mavs4, kvs4, e0, hmi4, _⟩ := hm40
          cases e0
          have s15 : Same H23 H25 := s24.trans s25
          have W15 := W13.sm s15
          have lX : ((putAll ts st0).ex.map V.str).length = n := by rw [List.length_map]; exact lex
          obtain ⟨avs', a1', a2'⟩ := W15.hA
          have lav' : avs'.length = l := by rw [← a2'.length]; exact lal
          refine ⟨.ref L, rfl, L, pvs, rfl, .inl (SqL.of (s15 _ _ p1')), .ref X, rfl, X, _, rfl, .inl (SqL.of W15.hX), _, _, rfl, rfl, .ref A, rfl, A, avs', rfl, .inl (SqL.of a1'), _, _, rfl, rfl, _, _, rfl, rfl, _, rfl, ?_⟩
          rw [lpv, lX, lav']
          refine ite2 (fun hc => ?_) (fun hc => ?_)
          · refine ⟨.ref m4, rfl, .ref m, rfl, m4, m, dx4, dx, _, _, rfl, rfl, hmi4, s15 _ _ hmi13, m4, m, putAll ts' st0, putAll ts st0, rfl, hm4, hm13.mono (Ke.of s15), mo.std, sd, mo.pre, fun H26 s26 => ⟨_, rfl, _, rfl, ?_⟩⟩
            rw [mo.ne (by have := of_decide_eq_true hc; omega)]
            refine iteF ?_
            have W16 := W15.sm s26
            refine ⟨.ref R, rfl, .ref L, rfl, .ref m, rfl, .ref m4, rfl, R, L, m, m4, ts, r, n, k, l, pvs, putAll ts' st0, rfl, d, hj, W16.hR, s26 _ _ (s15 _ _ p1'), pair_mono (fun _ _ h => h.mono (CP := 0) (Fix.of (s15.trans s26))) p2', hm13.mono (Ke.of (s15.trans s26)), hm4.mono (Ke.of s26), mo.nm, mo.few, fun H'' s'' => ⟨_, rfl, iteF ⟨_, _, _, _, _, _, _, _, _, _, _, _, _, _, _, _, rfl, s1.trans (W16.sm s'').same⟩⟩⟩
          · refine iteF ?_
            refine ⟨.ref R, rfl, .ref L, rfl, .ref m, rfl, .ref m4, rfl, R, L, m, m4, ts, r, n, k, l, pvs, putAll ts' st0, rfl, d, hj, W15.hR, s15 _ _ p1', pair_mono (fun _ _ h => h.mono (CP := 0) (Fix.of s15)) p2', hm13.mono (Ke.of s15), hm4, mo.nm, mo.few, fun H'' s'' => ⟨_, rfl, iteF ⟨_, _, _, _, _, _, _, _, _, _, _, _, _, _, _, _, rfl, s1.trans (W15.sm s'').same⟩⟩⟩
end
end KD

set_option Elab.async false
set_option linter.all false
set_option maxRecDepth 100000
set_option maxHeartbeats 8000000
namespace KD
open PySem PySem.Spec PyProof.Rows L2 L2.FK FS TX TG PG
def entKey (e : DictEntry) : Option Str := match e.key with
  | .str x _ => some x
  | _ => none
def tFn (as : List Addr) (z : Str) : Addr := (((FORM.map Prod.fst).zip as).lookup z).getD 0
theorem find_none {z : Str} : ∀ {es : List DictEntry} {ks : List Str}, es.map entKey = ks.map some → ks.contains z = false → es.find? (·.key.isStr z) = none ∧ es.any (·.refKey) = false
  | [], [], _, _ => ⟨rfl, rfl⟩
  | e :: es, k :: ks, h, hz => by
    have h1 : entKey e = some k := by injection h
    have h2 : es.map entKey = ks.map some := by injection h
    rw [List.contains_cons, Bool.or_eq_false_iff] at hz
    obtain ⟨i1, i2⟩ := find_none h2 hz.2
    unfold entKey at h1
    split at h1
    · rename_i x t ek
      have ex : x = k := Option.some.inj h1
      subst ex
      have hne : (x == z) = false := by
        have := hz.1
        rw [Bool.beq_comm] at this
        exact this
      constructor
      · rw [List.find?_cons]
        have : e.key.isStr z = false := by rw [ek]; exact hne
        rw [this]
        exact i1
      · rw [List.any_cons, i2, Bool.or_false]
        unfold DictEntry.refKey
        rw [ek]
        try rfl
    · cases h1
theorem ns_none {K : PySem.W.Frag} {d : Addr} {es : Array DictEntry} {n : Nat} {oc : Value} {od : Option Addr} {sl : Array (Option Value)} {z : Str} {ks : List Str} (l : K.lookup d = some ⟨oc, od, .dict es n, sl⟩) (h : es.toList.map entKey = ks.map some) (hz : ks.contains z = false) : PySem.W.nsIn K d z = some none := by
  obtain ⟨h1, h2⟩ := find_none h hz
  unfold PySem.W.nsIn
  rw [l]
  show (match es.toList.find? (·.key.isStr z) with | some e => some (some e.val) | none => if es.toList.any (·.refKey) then none else some none) = _
  rw [h1]
  show (if es.toList.any (·.refKey) = true then none else some none) = _
  rw [h2]
  rfl
theorem exm_own {K : PySem.W.Frag} {C : Addr} (a : PySem.W.subIn K (.ref C) (.type "BaseException") = some true) (b : PySem.W.isClsIn K C = true) (c : PySem.W.typeIn K (.ref C) = some (.type "type")) (d : PySem.W.subIn K (.ref C) (.ref C) = some true) : PySem.W.exmOne K (.ref C) (.ref C) = some true := by
  have b' : (PySem.W.clsIn K C).isSome = true := b
  simp [PySem.W.exmOne, PySem.W.kitCls, a, b', c, d]
theorem kt_mk {K : PySem.W.Frag} {a : Addr} {xs : List V} {o : Obj} {its : Array Value} {n : Nat} (x : K.lookup a = some o) (y : o.cls = .type "tuple") (d : o.data = .seq its n) (s : its.size ≤ sizeLine) (v : Vals xs its.toList) : KT K a xs := ⟨o, its, n, x, y, d, s, v⟩
theorem all_mk {l : PySem.W.OpenLaw} {w : World} {K : PySem.W.Frag} {h : Heap} {mg : Str → Option Value} {fa aO aR aK dF g0 g1 g2 g3 g4 g5 g6 g7 g8 g9 g10 g11 fNm fRi fRp fRs fIn fDa fTa fSp fPa fRL fML fLPo fLTk fLIn fLPi fLSh fLRi fLCm fLa CB fB CP CM CD fPI fPL fPE fMI fMC fMS fMit fME fDI fTk fBt fEx fAl fTn fOp fWi fCl : Addr} (X : K.In h) (G : h.Ns mainGlobals mg) (hfa : mg "law" = some (.ref fa))
    {tLE : Tok}
    {tDI : Tok}
    {tL8 : Tok}
    {tMR : Tok}
    {tMP : Tok}
    {otOT : Obj} {itOT : Array Value} {nnOT : Nat}
    {otRE : Obj} {itRE : Array Value} {nnRE : Nat}
    {otKI : Obj} {itKI : Array Value} {nnKI : Nat}
    {es : Array DictEntry} {nF : Nat}
    {of0 : Obj} {if0 : Array Value} {nf0 : Nat}
    {of1 : Obj} {if1 : Array Value} {nf1 : Nat}
    {of2 : Obj} {if2 : Array Value} {nf2 : Nat}
    {of3 : Obj} {if3 : Array Value} {nf3 : Nat}
    {of4 : Obj} {if4 : Array Value} {nf4 : Nat}
    {of5 : Obj} {if5 : Array Value} {nf5 : Nat}
    {of6 : Obj} {if6 : Array Value} {nf6 : Nat}
    {of7 : Obj} {if7 : Array Value} {nf7 : Nat}
    {of8 : Obj} {if8 : Array Value} {nf8 : Nat}
    {of9 : Obj} {if9 : Array Value} {nf9 : Nat}
    {of10 : Obj} {if10 : Array Value} {nf10 : Nat}
    {of11 : Obj} {if11 : Array Value} {nf11 : Nat}
    {ocNm kVNm dcNm pmNm cdNm ctNm : Value} {odNm anNm : Option Addr} {slNm : Array (Option Value)}
    {ocRi kVRi dcRi pmRi cdRi ctRi : Value} {odRi anRi : Option Addr} {slRi : Array (Option Value)}
    {ocRp kVRp dcRp pmRp cdRp ctRp : Value} {odRp anRp : Option Addr} {slRp : Array (Option Value)}
    {ocRs kVRs dcRs pmRs cdRs ctRs : Value} {odRs anRs : Option Addr} {slRs : Array (Option Value)}
    {ocIn kVIn dcIn pmIn cdIn ctIn : Value} {odIn anIn : Option Addr} {slIn : Array (Option Value)}
    {ocDa kVDa dcDa pmDa cdDa ctDa : Value} {odDa anDa : Option Addr} {slDa : Array (Option Value)}
    {ocTa kVTa dcTa pmTa cdTa ctTa : Value} {odTa anTa : Option Addr} {slTa : Array (Option Value)}
    {ocSp kVSp dcSp pmSp cdSp ctSp : Value} {odSp anSp : Option Addr} {slSp : Array (Option Value)}
    {ocPa kVPa dcPa pmPa cdPa ctPa : Value} {odPa anPa : Option Addr} {slPa : Array (Option Value)}
    {ocRL kVRL dcRL pmRL cdRL ctRL : Value} {odRL anRL : Option Addr} {slRL : Array (Option Value)}
    {ocML kVML dcML pmML cdML ctML : Value} {odML anML : Option Addr} {slML : Array (Option Value)}
    {ocLPo kVLPo dcLPo pmLPo cdLPo ctLPo : Value} {odLPo anLPo : Option Addr} {slLPo : Array (Option Value)}
    {ocLTk kVLTk dcLTk pmLTk cdLTk ctLTk : Value} {odLTk anLTk : Option Addr} {slLTk : Array (Option Value)}
    {ocLIn kVLIn dcLIn pmLIn cdLIn ctLIn : Value} {odLIn anLIn : Option Addr} {slLIn : Array (Option Value)}
    {ocLPi kVLPi dcLPi pmLPi cdLPi ctLPi : Value} {odLPi anLPi : Option Addr} {slLPi : Array (Option Value)}
    {ocLSh kVLSh dcLSh pmLSh cdLSh ctLSh : Value} {odLSh anLSh : Option Addr} {slLSh : Array (Option Value)}
    {ocLRi kVLRi dcLRi pmLRi cdLRi ctLRi : Value} {odLRi anLRi : Option Addr} {slLRi : Array (Option Value)}
    {ocLCm kVLCm dcLCm pmLCm cdLCm ctLCm : Value} {odLCm anLCm : Option Addr} {slLCm : Array (Option Value)}
    {ocLa kVLa dcLa pmLa cdLa ctLa : Value} {odLa anLa : Option Addr} {slLa : Array (Option Value)}
    {nxB qB : Str} {NB : Addr} {bsB bmB : List Value} {snB : List Str} {subB : List Value} {abB : Bool} {colB : Option Bool} {ddB : Option Addr} {m0B m1B m2B m3B m5B : Option Value}
    {ocB kVB dcB pmB cdB ctB : Value} {odB anB : Option Addr} {slB : Array (Option Value)}
    {ocPI kVPI dcPI pmPI cdPI ctPI : Value} {odPI anPI : Option Addr} {slPI : Array (Option Value)}
    {ocPL kVPL dcPL pmPL cdPL ctPL : Value} {odPL anPL : Option Addr} {slPL : Array (Option Value)}
    {ocPE kVPE dcPE pmPE cdPE ctPE : Value} {odPE anPE : Option Addr} {slPE : Array (Option Value)}
    {ocMI kVMI dcMI pmMI cdMI ctMI : Value} {odMI anMI : Option Addr} {slMI : Array (Option Value)}
    {ocMC kVMC dcMC pmMC cdMC ctMC : Value} {odMC anMC : Option Addr} {slMC : Array (Option Value)}
    {ocMS kVMS dcMS pmMS cdMS ctMS : Value} {odMS anMS : Option Addr} {slMS : Array (Option Value)}
    {ocMit kVMit dcMit pmMit cdMit ctMit : Value} {odMit anMit : Option Addr} {slMit : Array (Option Value)}
    {ocME kVME dcME pmME cdME ctME : Value} {odME anME : Option Addr} {slME : Array (Option Value)}
    {ocDI kVDI dcDI pmDI cdDI ctDI : Value} {odDI anDI : Option Addr} {slDI : Array (Option Value)}
    {ocTk kVTk dcTk pmTk cdTk ctTk : Value} {odTk anTk : Option Addr} {slTk : Array (Option Value)}
    {ocBt kVBt dcBt pmBt cdBt ctBt : Value} {odBt anBt : Option Addr} {slBt : Array (Option Value)}
    {ocEx kVEx dcEx pmEx cdEx ctEx : Value} {odEx anEx : Option Addr} {slEx : Array (Option Value)}
    {ocAl kVAl dcAl pmAl cdAl ctAl : Value} {odAl anAl : Option Addr} {slAl : Array (Option Value)}
    {ocTn kVTn dcTn pmTn cdTn ctTn : Value} {odTn anTn : Option Addr} {slTn : Array (Option Value)}
    {ocOp kVOp dcOp pmOp cdOp ctOp : Value} {odOp anOp : Option Addr} {slOp : Array (Option Value)}
    {ocWi kVWi dcWi pmWi cdWi ctWi : Value} {odWi anWi : Option Addr} {slWi : Array (Option Value)}
    {ocCl kVCl dcCl pmCl cdCl ctCl : Value} {odCl anCl : Option Addr} {slCl : Array (Option Value)}
    (aLE : PySem.W.nsIn K mainGlobals "LETTERS" = some (some (.str LET tLE)))
    (aDI : PySem.W.nsIn K mainGlobals "DIGITS" = some (some (.str DIG tDI)))
    (aL8 : PySem.W.nsIn K mainGlobals "LONGEST_NAME" = some (some (.int 8 tL8)))
    (aMR : PySem.W.nsIn K mainGlobals "MOST_ROWS" = some (some (.int 16 tMR)))
    (aMP : PySem.W.nsIn K mainGlobals "MOST_PIECES" = some (some (.int 12 tMP)))
    (aOT : PySem.W.nsIn K mainGlobals "OTHER_WORDS" = some (some (.ref aO)))
    (xOT : K.lookup aO = some otOT) (yOT : otOT.cls = .type "tuple") (dOT : otOT.data = .seq itOT nnOT) (sOT : itOT.size ≤ sizeLine) (vOT : Vals (OTHERS.map V.str) itOT.toList)
    (aRE : PySem.W.nsIn K mainGlobals "REGISTERS" = some (some (.ref aR)))
    (xRE : K.lookup aR = some otRE) (yRE : otRE.cls = .type "tuple") (dRE : otRE.data = .seq itRE nnRE) (sRE : itRE.size ≤ sizeLine) (vRE : Vals (REGS.map V.str) itRE.toList)
    (aKI : PySem.W.nsIn K mainGlobals "KINDS" = some (some (.ref aK)))
    (xKI : K.lookup aK = some otKI) (yKI : otKI.cls = .type "tuple") (dKI : otKI.data = .seq itKI nnKI) (sKI : itKI.size ≤ sizeLine) (vKI : Vals ([.str "func", .str "data"]) itKI.toList)
    (aFO : PySem.W.nsIn K mainGlobals "FORMS" = some (some (.ref dF)))
    (xFO : K.lookup dF = some ⟨.type "dict", none, .dict es nF, #[]⟩) (keFO : es.toList.map entKey = FORM.map fun p => some p.1) (klFO : PySem.W.KeysLit w.params es.toList) (lwFO : (dF == sysModules) = false)
    (e0 : PySem.W.nsIn K dF "call" = some (some (.ref g0))) (x0 : K.lookup g0 = some of0) (y0 : of0.cls = .type "tuple") (d0 : of0.data = .seq if0 nf0) (s0 : if0.size ≤ sizeLine) (v0 : Vals ((["name"] : List Str).map V.str) if0.toList) (u0 : of0.dict = none)
    (e1 : PySem.W.nsIn K dF "callr" = some (some (.ref g1))) (x1 : K.lookup g1 = some of1) (y1 : of1.cls = .type "tuple") (d1 : of1.data = .seq if1 nf1) (s1 : if1.size ≤ sizeLine) (v1 : Vals ((["reg"] : List Str).map V.str) if1.toList) (u1 : of1.dict = none)
    (e2 : PySem.W.nsIn K dF "ret" = some (some (.ref g2))) (x2 : K.lookup g2 = some of2) (y2 : of2.cls = .type "tuple") (d2 : of2.data = .seq if2 nf2) (s2 : if2.size ≤ sizeLine) (v2 : Vals (([] : List Str).map V.str) if2.toList) (u2 : of2.dict = none)
    (e3 : PySem.W.nsIn K dF "addr" = some (some (.ref g3))) (x3 : K.lookup g3 = some of3) (y3 : of3.cls = .type "tuple") (d3 : of3.data = .seq if3 nf3) (s3 : if3.size ≤ sizeLine) (v3 : Vals ((["reg", "name"] : List Str).map V.str) if3.toList) (u3 : of3.dict = none)
    (e4 : PySem.W.nsIn K dF "set" = some (some (.ref g4))) (x4 : K.lookup g4 = some of4) (y4 : of4.cls = .type "tuple") (d4 : of4.data = .seq if4 nf4) (s4 : if4.size ≤ sizeLine) (v4 : Vals ((["reg", "integer"] : List Str).map V.str) if4.toList) (u4 : of4.dict = none)
    (e5 : PySem.W.nsIn K dF "move" = some (some (.ref g5))) (x5 : K.lookup g5 = some of5) (y5 : of5.cls = .type "tuple") (d5 : of5.data = .seq if5 nf5) (s5 : if5.size ≤ sizeLine) (v5 : Vals ((["reg", "reg"] : List Str).map V.str) if5.toList) (u5 : of5.dict = none)
    (e6 : PySem.W.nsIn K dF "read" = some (some (.ref g6))) (x6 : K.lookup g6 = some of6) (y6 : of6.cls = .type "tuple") (d6 : of6.data = .seq if6 nf6) (s6 : if6.size ≤ sizeLine) (v6 : Vals ((["reg", "name", "integer"] : List Str).map V.str) if6.toList) (u6 : of6.dict = none)
    (e7 : PySem.W.nsIn K dF "readr" = some (some (.ref g7))) (x7 : K.lookup g7 = some of7) (y7 : of7.cls = .type "tuple") (d7 : of7.data = .seq if7 nf7) (s7 : if7.size ≤ sizeLine) (v7 : Vals ((["reg", "reg", "integer"] : List Str).map V.str) if7.toList) (u7 : of7.dict = none)
    (e8 : PySem.W.nsIn K dF "same" = some (some (.ref g8))) (x8 : K.lookup g8 = some of8) (y8 : of8.cls = .type "tuple") (d8 : of8.data = .seq if8 nf8) (s8 : if8.size ≤ sizeLine) (v8 : Vals ((["reg", "reg", "to"] : List Str).map V.str) if8.toList) (u8 : of8.dict = none)
    (e9 : PySem.W.nsIn K dF "choose" = some (some (.ref g9))) (x9 : K.lookup g9 = some of9) (y9 : of9.cls = .type "tuple") (d9 : of9.data = .seq if9 nf9) (s9 : if9.size ≤ sizeLine) (v9 : Vals ((["to"] : List Str).map V.str) if9.toList) (u9 : of9.dict = none)
    (e10 : PySem.W.nsIn K dF "tell" = some (some (.ref g10))) (x10 : K.lookup g10 = some of10) (y10 : of10.cls = .type "tuple") (d10 : of10.data = .seq if10 nf10) (s10 : if10.size ≤ sizeLine) (v10 : Vals ((["reg"] : List Str).map V.str) if10.toList) (u10 : of10.dict = none)
    (e11 : PySem.W.nsIn K dF "go" = some (some (.ref g11))) (x11 : K.lookup g11 = some of11) (y11 : of11.cls = .type "tuple") (d11 : of11.data = .seq if11 nf11) (s11 : if11.size ≤ sizeLine) (v11 : Vals ((["to"] : List Str).map V.str) if11.toList) (u11 : of11.dict = none)
    (zisinstance : PySem.W.nsIn K mainGlobals "isinstance" = some none)
    (zstr : PySem.W.nsIn K mainGlobals "str" = some none)
    (zlen : PySem.W.nsIn K mainGlobals "len" = some none)
    (zall : PySem.W.nsIn K mainGlobals "all" = some none)
    (zany : PySem.W.nsIn K mainGlobals "any" = some none)
    (zint : PySem.W.nsIn K mainGlobals "int" = some none)
    (zzip : PySem.W.nsIn K mainGlobals "zip" = some none)
    (ztuple : PySem.W.nsIn K mainGlobals "tuple" = some none)
    (zenumerate : PySem.W.nsIn K mainGlobals "enumerate" = some none)
    (zrange : PySem.W.nsIn K mainGlobals "range" = some none)
    (zlist : PySem.W.nsIn K mainGlobals "list" = some none)
    (zmax : PySem.W.nsIn K mainGlobals "max" = some none)
    (zmin : PySem.W.nsIn K mainGlobals "min" = some none)
    (zabs : PySem.W.nsIn K mainGlobals "abs" = some none)
    (aNm : PySem.W.nsIn K mainGlobals "is_name" = some (some (.ref fNm)))
    (lNm : K.lookup fNm = some ⟨ocNm, odNm, .func (PySem.W.fnOf "is_name" "is_name" (defArgs sIsName) (defBody sIsName) (defScope sIsName) .none kVNm dcNm pmNm anNm cdNm ctNm), slNm⟩) (cNm : PySem.W.codeIn K cdNm "is_name" = true) (kNm : PySem.W.keepIn K (.ref fNm) = true)
    (aRi : PySem.W.nsIn K mainGlobals "read_integer" = some (some (.ref fRi)))
    (lRi : K.lookup fRi = some ⟨ocRi, odRi, .func (PySem.W.fnOf "read_integer" "read_integer" (defArgs sReadInt) (defBody sReadInt) (defScope sReadInt) .none kVRi dcRi pmRi anRi cdRi ctRi), slRi⟩) (cRi : PySem.W.codeIn K cdRi "read_integer" = true) (kRi : PySem.W.keepIn K (.ref fRi) = true)
    (aRp : PySem.W.nsIn K mainGlobals "read_part" = some (some (.ref fRp)))
    (lRp : K.lookup fRp = some ⟨ocRp, odRp, .func (PySem.W.fnOf "read_part" "read_part" (defArgs sReadPart) (defBody sReadPart) (defScope sReadPart) .none kVRp dcRp pmRp anRp cdRp ctRp), slRp⟩) (cRp : PySem.W.codeIn K cdRp "read_part" = true) (kRp : PySem.W.keepIn K (.ref fRp) = true)
    (aRs : PySem.W.nsIn K mainGlobals "read_parts" = some (some (.ref fRs)))
    (lRs : K.lookup fRs = some ⟨ocRs, odRs, .func (PySem.W.fnOf "read_parts" "read_parts" (defArgs sReadParts) (defBody sReadParts) (defScope sReadParts) .none kVRs dcRs pmRs anRs cdRs ctRs), slRs⟩) (cRs : PySem.W.codeIn K cdRs "read_parts" = true) (kRs : PySem.W.keepIn K (.ref fRs) = true)
    (aIn : PySem.W.nsIn K mainGlobals "read_instruction" = some (some (.ref fIn)))
    (lIn : K.lookup fIn = some ⟨ocIn, odIn, .func (PySem.W.fnOf "read_instruction" "read_instruction" (defArgs sReadIns) (defBody sReadIns) (defScope sReadIns) .none kVIn dcIn pmIn anIn cdIn ctIn), slIn⟩) (cIn : PySem.W.codeIn K cdIn "read_instruction" = true) (kIn : PySem.W.keepIn K (.ref fIn) = true)
    (aDa : PySem.W.nsIn K mainGlobals "read_datum" = some (some (.ref fDa)))
    (lDa : K.lookup fDa = some ⟨ocDa, odDa, .func (PySem.W.fnOf "read_datum" "read_datum" (defArgs sReadDat) (defBody sReadDat) (defScope sReadDat) .none kVDa dcDa pmDa anDa cdDa ctDa), slDa⟩) (cDa : PySem.W.codeIn K cdDa "read_datum" = true) (kDa : PySem.W.keepIn K (.ref fDa) = true)
    (aTa : PySem.W.nsIn K mainGlobals "target_of" = some (some (.ref fTa)))
    (lTa : K.lookup fTa = some ⟨ocTa, odTa, .func (PySem.W.fnOf "target_of" "target_of" (defArgs sTarget) (defBody sTarget) (defScope sTarget) .none kVTa dcTa pmTa anTa cdTa ctTa), slTa⟩) (cTa : PySem.W.codeIn K cdTa "target_of" = true) (kTa : PySem.W.keepIn K (.ref fTa) = true)
    (aSp : PySem.W.nsIn K mainGlobals "split_rows" = some (some (.ref fSp)))
    (lSp : K.lookup fSp = some ⟨ocSp, odSp, .func (PySem.W.fnOf "split_rows" "split_rows" (defArgs sSplit) (defBody sSplit) (defScope sSplit) .none kVSp dcSp pmSp anSp cdSp ctSp), slSp⟩) (cSp : PySem.W.codeIn K cdSp "split_rows" = true) (kSp : PySem.W.keepIn K (.ref fSp) = true)
    (aPa : PySem.W.nsIn K mainGlobals "parse_module" = some (some (.ref fPa)))
    (lPa : K.lookup fPa = some ⟨ocPa, odPa, .func (PySem.W.fnOf "parse_module" "parse_module" (defArgs sParse) (defBody sParse) (defScope sParse) .none kVPa dcPa pmPa anPa cdPa ctPa), slPa⟩) (cPa : PySem.W.codeIn K cdPa "parse_module" = true) (kPa : PySem.W.keepIn K (.ref fPa) = true)
    (aRL : PySem.W.nsIn K mainGlobals "row_line" = some (some (.ref fRL)))
    (lRL : K.lookup fRL = some ⟨ocRL, odRL, .func (PySem.W.fnOf "row_line" "row_line" (defArgs KD.sRowLine) (defBody KD.sRowLine) (defScope KD.sRowLine) .none kVRL dcRL pmRL anRL cdRL ctRL), slRL⟩) (cRL : PySem.W.codeIn K cdRL "row_line" = true) (kRL : PySem.W.keepIn K (.ref fRL) = true)
    (aML : PySem.W.nsIn K mainGlobals "module_lines" = some (some (.ref fML)))
    (lML : K.lookup fML = some ⟨ocML, odML, .func (PySem.W.fnOf "module_lines" "module_lines" (defArgs KD.sLines) (defBody KD.sLines) (defScope KD.sLines) .none kVML dcML pmML anML cdML ctML), slML⟩) (cML : PySem.W.codeIn K cdML "module_lines" = true) (kML : PySem.W.keepIn K (.ref fML) = true)
    (aLPo : PySem.W.nsIn K mainGlobals "_law_pool" = some (some (.ref fLPo)))
    (lLPo : K.lookup fLPo = some ⟨ocLPo, odLPo, .func (PySem.W.fnOf "_law_pool" "_law_pool" (defArgs TopL.sPool) (defBody TopL.sPool) (defScope TopL.sPool) .none kVLPo dcLPo pmLPo anLPo cdLPo ctLPo), slLPo⟩) (cLPo : PySem.W.codeIn K cdLPo "_law_pool" = true) (kLPo : PySem.W.keepIn K (.ref fLPo) = true)
    (aLTk : PySem.W.nsIn K mainGlobals "_law_take" = some (some (.ref fLTk)))
    (lLTk : K.lookup fLTk = some ⟨ocLTk, odLTk, .func (PySem.W.fnOf "_law_take" "_law_take" (defArgs TopL.sTake) (defBody TopL.sTake) (defScope TopL.sTake) .none kVLTk dcLTk pmLTk anLTk cdLTk ctLTk), slLTk⟩) (cLTk : PySem.W.codeIn K cdLTk "_law_take" = true) (kLTk : PySem.W.keepIn K (.ref fLTk) = true)
    (aLIn : PySem.W.nsIn K mainGlobals "_law_instruction" = some (some (.ref fLIn)))
    (lLIn : K.lookup fLIn = some ⟨ocLIn, odLIn, .func (PySem.W.fnOf "_law_instruction" "_law_instruction" (defArgs KD.sIns) (defBody KD.sIns) (defScope KD.sIns) .none kVLIn dcLIn pmLIn anLIn cdLIn ctLIn), slLIn⟩) (cLIn : PySem.W.codeIn K cdLIn "_law_instruction" = true) (kLIn : PySem.W.keepIn K (.ref fLIn) = true)
    (aLPi : PySem.W.nsIn K mainGlobals "_law_piece" = some (some (.ref fLPi)))
    (lLPi : K.lookup fLPi = some ⟨ocLPi, odLPi, .func (PySem.W.fnOf "_law_piece" "_law_piece" (defArgs KD.sPie) (defBody KD.sPie) (defScope KD.sPie) .none kVLPi dcLPi pmLPi anLPi cdLPi ctLPi), slLPi⟩) (cLPi : PySem.W.codeIn K cdLPi "_law_piece" = true) (kLPi : PySem.W.keepIn K (.ref fLPi) = true)
    (aLSh : PySem.W.nsIn K mainGlobals "_law_shown" = some (some (.ref fLSh)))
    (lLSh : K.lookup fLSh = some ⟨ocLSh, odLSh, .func (PySem.W.fnOf "_law_shown" "_law_shown" (defArgs KD.sShown) (defBody KD.sShown) (defScope KD.sShown) .none kVLSh dcLSh pmLSh anLSh cdLSh ctLSh), slLSh⟩) (cLSh : PySem.W.codeIn K cdLSh "_law_shown" = true) (kLSh : PySem.W.keepIn K (.ref fLSh) = true)
    (aLRi : PySem.W.nsIn K mainGlobals "_law_right" = some (some (.ref fLRi)))
    (lLRi : K.lookup fLRi = some ⟨ocLRi, odLRi, .func (PySem.W.fnOf "_law_right" "_law_right" (defArgs KD.sRight) (defBody KD.sRight) (defScope KD.sRight) .none kVLRi dcLRi pmLRi anLRi cdLRi ctLRi), slLRi⟩) (cLRi : PySem.W.codeIn K cdLRi "_law_right" = true) (kLRi : PySem.W.keepIn K (.ref fLRi) = true)
    (aLCm : PySem.W.nsIn K mainGlobals "_law_compared_right" = some (some (.ref fLCm)))
    (lLCm : K.lookup fLCm = some ⟨ocLCm, odLCm, .func (PySem.W.fnOf "_law_compared_right" "_law_compared_right" (defArgs KD.sCmp) (defBody KD.sCmp) (defScope KD.sCmp) .none kVLCm dcLCm pmLCm anLCm cdLCm ctLCm), slLCm⟩) (cLCm : PySem.W.codeIn K cdLCm "_law_compared_right" = true) (kLCm : PySem.W.keepIn K (.ref fLCm) = true)
    (aLa : PySem.W.nsIn K mainGlobals "law" = some (some (.ref fLa)))
    (lLa : K.lookup fLa = some ⟨ocLa, odLa, .func (PySem.W.fnOf "law" "law" (defArgs KD.sLaw) (defBody KD.sLaw) (defScope KD.sLaw) .none kVLa dcLa pmLa anLa cdLa ctLa), slLa⟩) (cLa : PySem.W.codeIn K cdLa "law" = true) (kLa : PySem.W.keepIn K (.ref fLa) = true)
    (hn : PySem.W.specialIn K (.builtin "object.__class__") "__get__" = some (some (.builtin "getset_descriptor.__get__"))) (ht : PySem.W.takesIn K (.builtin "object.__class__") = some true)
    (aB : PySem.W.nsIn K mainGlobals "BadText" = some (some (.ref CB)))
    (xLB : K.lookup CB = some (excClassObj nxB qB CB NB bsB bmB true snB subB abB colB ddB m0B m1B m2B m3B m5B "ValueError.__new__")) (bvB : PySem.HandSPX.refsVE bmB = true)
    (saB : PySem.W.findIn K (.ref CB) "__setattr__" = some (some (.builtin "object.__setattr__"))) (gaB : PySem.W.findIn K (.ref CB) "__getattribute__" = some (some (.builtin "BaseException.__getattribute__"))) (ggB : PySem.W.findIn K (.ref CB) "__getattr__" = some none)
    (a1B : PySem.W.findIn K (.ref CB) "__init__" = some (some (.ref fB))) (t1B : PySem.W.typeIn K (.ref fB) = some (.type "function")) (kCB : PySem.W.keepIn K (.ref CB) = true) (eCB : PySem.W.subIn K (.ref CB) (.type "BaseException") = some true)
    (tCB : PySem.W.typeIn K (.ref CB) = some (.type "type")) (hCB : PySem.W.hasDictIn K CB = true) (cCB : PySem.W.findIn K (.ref CB) "__class__" = some (some (.builtin "object.__class__"))) (mCB : PySem.W.mroIn K CB (.type "object") = some true)
    (lB : K.lookup fB = some ⟨ocB, odB, .func (PySem.W.fnOf "__init__" "BadText.__init__" (defArgs sBadI) (defBody sBadI) (defScope sBadI) .none kVB dcB pmB anB cdB ctB), slB⟩) (cB : PySem.W.codeIn K cdB "BadText.__init__" = true) (kB : PySem.W.keepIn K (.ref fB) = true)
    (noBrow : PySem.W.findIn K (.ref CB) "row" = some none)
    (iCB : PySem.W.isClsIn K CB = true) (sCB : PySem.W.subIn K (.ref CB) (.ref CB) = some true)
    (aCP : PySem.W.nsIn K mainGlobals "Piece" = some (some (.ref CP)))
    (pgCP : PySem.W.plainGet K CP Str.empty = true) (hdCP : PySem.W.hasDictIn K CP = true) (poCP : PySem.W.plainOver K CP = true) (saCP : PySem.W.findIn K (.ref CP) "__setattr__" = some (some (.builtin "object.__setattr__"))) (mkCP : PySem.W.makesIn K CP = true) (kcCP : PySem.W.keepIn K (.ref CP) = true)
    (nCPname : PySem.W.findIn K (.ref CP) "name" = some none)
    (nCPkind : PySem.W.findIn K (.ref CP) "kind" = some none)
    (nCProws : PySem.W.findIn K (.ref CP) "rows" = some none)
    (nCPtake : PySem.W.findIn K (.ref CP) "take" = some none)
    (nCP__iter__ : PySem.W.findIn K (.ref CP) "__iter__" = some none)
    (mPI : PySem.W.findIn K (.ref CP) "__init__" = some (some (.ref fPI))) (iPI : PySem.W.isFn K (.ref fPI) = true)
    (lPI : K.lookup fPI = some ⟨ocPI, odPI, .func (PySem.W.fnOf "__init__" "Piece.__init__" (defArgs sPieceI) (defBody sPieceI) (defScope sPieceI) .none kVPI dcPI pmPI anPI cdPI ctPI), slPI⟩) (cPI : PySem.W.codeIn K cdPI "Piece.__init__" = true) (kPI : PySem.W.keepIn K (.ref fPI) = true)
    (mPL : PySem.W.findIn K (.ref CP) "__len__" = some (some (.ref fPL))) (iPL : PySem.W.isFn K (.ref fPL) = true)
    (lPL : K.lookup fPL = some ⟨ocPL, odPL, .func (PySem.W.fnOf "__len__" "Piece.__len__" (defArgs KD.sPieceL) (defBody KD.sPieceL) (defScope KD.sPieceL) .none kVPL dcPL pmPL anPL cdPL ctPL), slPL⟩) (cPL : PySem.W.codeIn K cdPL "Piece.__len__" = true) (kPL : PySem.W.keepIn K (.ref fPL) = true)
    (mPE : PySem.W.findIn K (.ref CP) "__eq__" = some (some (.ref fPE))) (iPE : PySem.W.isFn K (.ref fPE) = true)
    (lPE : K.lookup fPE = some ⟨ocPE, odPE, .func (PySem.W.fnOf "__eq__" "Piece.__eq__" (defArgs KD.sPieceE) (defBody KD.sPieceE) (defScope KD.sPieceE) .none kVPE dcPE pmPE anPE cdPE ctPE), slPE⟩) (cPE : PySem.W.codeIn K cdPE "Piece.__eq__" = true) (kPE : PySem.W.keepIn K (.ref fPE) = true)
    (cCP : PySem.W.findIn K (.ref CP) "__class__" = some (some (.builtin "object.__class__"))) (mCP : PySem.W.mroIn K CP (.type "object") = some true)
    (aCM : PySem.W.nsIn K mainGlobals "Module" = some (some (.ref CM)))
    (pgCM : PySem.W.plainGet K CM Str.empty = true) (hdCM : PySem.W.hasDictIn K CM = true) (poCM : PySem.W.plainOver K CM = true) (saCM : PySem.W.findIn K (.ref CM) "__setattr__" = some (some (.builtin "object.__setattr__"))) (mkCM : PySem.W.makesIn K CM = true) (kcCM : PySem.W.keepIn K (.ref CM) = true)
    (nCMpieces : PySem.W.findIn K (.ref CM) "pieces" = some none)
    (nCMexports : PySem.W.findIn K (.ref CM) "exports" = some none)
    (nCMaliases : PySem.W.findIn K (.ref CM) "aliases" = some none)
    (nCM_named : PySem.W.findIn K (.ref CM) "_named" = some none)
    (cCM : PySem.W.findIn K (.ref CM) "__class__" = some (some (.builtin "object.__class__"))) (mCM : PySem.W.mroIn K CM (.type "object") = some true) (eNM : PySem.W.findIn K (.ref CM) "__ne__" = some (some (.builtin "object.__ne__")))
    (mMI : PySem.W.findIn K (.ref CM) "__init__" = some (some (.ref fMI))) (iMI : PySem.W.isFn K (.ref fMI) = true)
    (lMI : K.lookup fMI = some ⟨ocMI, odMI, .func (PySem.W.fnOf "__init__" "Module.__init__" (defArgs sModI) (defBody sModI) (defScope sModI) .none kVMI dcMI pmMI anMI cdMI ctMI), slMI⟩) (cMI : PySem.W.codeIn K cdMI "Module.__init__" = true) (kMI : PySem.W.keepIn K (.ref fMI) = true)
    (mMC : PySem.W.findIn K (.ref CM) "__contains__" = some (some (.ref fMC))) (iMC : PySem.W.isFn K (.ref fMC) = true)
    (lMC : K.lookup fMC = some ⟨ocMC, odMC, .func (PySem.W.fnOf "__contains__" "Module.__contains__" (defArgs KD.sModC) (defBody KD.sModC) (defScope KD.sModC) .none kVMC dcMC pmMC anMC cdMC ctMC), slMC⟩) (cMC : PySem.W.codeIn K cdMC "Module.__contains__" = true) (kMC : PySem.W.keepIn K (.ref fMC) = true)
    (mMS : PySem.W.findIn K (.ref CM) "__str__" = some (some (.ref fMS))) (iMS : PySem.W.isFn K (.ref fMS) = true)
    (lMS : K.lookup fMS = some ⟨ocMS, odMS, .func (PySem.W.fnOf "__str__" "Module.__str__" (defArgs KD.sModS) (defBody KD.sModS) (defScope KD.sModS) .none kVMS dcMS pmMS anMS cdMS ctMS), slMS⟩) (cMS : PySem.W.codeIn K cdMS "Module.__str__" = true) (kMS : PySem.W.keepIn K (.ref fMS) = true)
    (mMit : PySem.W.findIn K (.ref CM) "__iter__" = some (some (.ref fMit))) (iMit : PySem.W.isFn K (.ref fMit) = true)
    (lMit : K.lookup fMit = some ⟨ocMit, odMit, .func (PySem.W.fnOf "__iter__" "Module.__iter__" (defArgs (inClass (top (TX.o + 11)) 3)) (defBody (inClass (top (TX.o + 11)) 3)) (defScope (inClass (top (TX.o + 11)) 3)) .none kVMit dcMit pmMit anMit cdMit ctMit), slMit⟩) (cMit : PySem.W.codeIn K cdMit "Module.__iter__" = true) (kMit : PySem.W.keepIn K (.ref fMit) = true)
    (mME : PySem.W.findIn K (.ref CM) "__eq__" = some (some (.ref fME))) (iME : PySem.W.isFn K (.ref fME) = true)
    (lME : K.lookup fME = some ⟨ocME, odME, .func (PySem.W.fnOf "__eq__" "Module.__eq__" (defArgs KD.sModE) (defBody KD.sModE) (defScope KD.sModE) .none kVME dcME pmME anME cdME ctME), slME⟩) (cME : PySem.W.codeIn K cdME "Module.__eq__" = true) (kME : PySem.W.keepIn K (.ref fME) = true)
    (aCD : PySem.W.nsIn K mainGlobals "Draft" = some (some (.ref CD)))
    (pgCD : PySem.W.plainGet K CD Str.empty = true) (hdCD : PySem.W.hasDictIn K CD = true) (poCD : PySem.W.plainOver K CD = true) (saCD : PySem.W.findIn K (.ref CD) "__setattr__" = some (some (.builtin "object.__setattr__"))) (mkCD : PySem.W.makesIn K CD = true) (kcCD : PySem.W.keepIn K (.ref CD) = true)
    (nCDpieces : PySem.W.findIn K (.ref CD) "pieces" = some none)
    (nCDexports : PySem.W.findIn K (.ref CD) "exports" = some none)
    (nCDaliases : PySem.W.findIn K (.ref CD) "aliases" = some none)
    (nCDnamed : PySem.W.findIn K (.ref CD) "named" = some none)
    (nCDkind : PySem.W.findIn K (.ref CD) "kind" = some none)
    (nCDname : PySem.W.findIn K (.ref CD) "name" = some none)
    (nCDstart : PySem.W.findIn K (.ref CD) "start" = some none)
    (nCDrows : PySem.W.findIn K (.ref CD) "rows" = some none)
    (mDI : PySem.W.findIn K (.ref CD) "__init__" = some (some (.ref fDI))) (iDI : PySem.W.isFn K (.ref fDI) = true)
    (lDI : K.lookup fDI = some ⟨ocDI, odDI, .func (PySem.W.fnOf "__init__" "Draft.__init__" (defArgs (sDraft 0)) (defBody (sDraft 0)) (defScope (sDraft 0)) .none kVDI dcDI pmDI anDI cdDI ctDI), slDI⟩) (cDI : PySem.W.codeIn K cdDI "Draft.__init__" = true) (kDI : PySem.W.keepIn K (.ref fDI) = true)
    (mTk : PySem.W.findIn K (.ref CD) "take" = some (some (.ref fTk))) (iTk : PySem.W.isFn K (.ref fTk) = true)
    (lTk : K.lookup fTk = some ⟨ocTk, odTk, .func (PySem.W.fnOf "take" "Draft.take" (defArgs (sDraft 1)) (defBody (sDraft 1)) (defScope (sDraft 1)) .none kVTk dcTk pmTk anTk cdTk ctTk), slTk⟩) (cTk : PySem.W.codeIn K cdTk "Draft.take" = true) (kTk : PySem.W.keepIn K (.ref fTk) = true)
    (mBt : PySem.W.findIn K (.ref CD) "take_between" = some (some (.ref fBt))) (iBt : PySem.W.isFn K (.ref fBt) = true)
    (lBt : K.lookup fBt = some ⟨ocBt, odBt, .func (PySem.W.fnOf "take_between" "Draft.take_between" (defArgs (sDraft 2)) (defBody (sDraft 2)) (defScope (sDraft 2)) .none kVBt dcBt pmBt anBt cdBt ctBt), slBt⟩) (cBt : PySem.W.codeIn K cdBt "Draft.take_between" = true) (kBt : PySem.W.keepIn K (.ref fBt) = true)
    (mEx : PySem.W.findIn K (.ref CD) "take_exports" = some (some (.ref fEx))) (iEx : PySem.W.isFn K (.ref fEx) = true)
    (lEx : K.lookup fEx = some ⟨ocEx, odEx, .func (PySem.W.fnOf "take_exports" "Draft.take_exports" (defArgs (sDraft 3)) (defBody (sDraft 3)) (defScope (sDraft 3)) .none kVEx dcEx pmEx anEx cdEx ctEx), slEx⟩) (cEx : PySem.W.codeIn K cdEx "Draft.take_exports" = true) (kEx : PySem.W.keepIn K (.ref fEx) = true)
    (mAl : PySem.W.findIn K (.ref CD) "take_alias" = some (some (.ref fAl))) (iAl : PySem.W.isFn K (.ref fAl) = true)
    (lAl : K.lookup fAl = some ⟨ocAl, odAl, .func (PySem.W.fnOf "take_alias" "Draft.take_alias" (defArgs (sDraft 4)) (defBody (sDraft 4)) (defScope (sDraft 4)) .none kVAl dcAl pmAl anAl cdAl ctAl), slAl⟩) (cAl : PySem.W.codeIn K cdAl "Draft.take_alias" = true) (kAl : PySem.W.keepIn K (.ref fAl) = true)
    (mTn : PySem.W.findIn K (.ref CD) "take_name" = some (some (.ref fTn))) (iTn : PySem.W.isFn K (.ref fTn) = true)
    (lTn : K.lookup fTn = some ⟨ocTn, odTn, .func (PySem.W.fnOf "take_name" "Draft.take_name" (defArgs (sDraft 5)) (defBody (sDraft 5)) (defScope (sDraft 5)) .none kVTn dcTn pmTn anTn cdTn ctTn), slTn⟩) (cTn : PySem.W.codeIn K cdTn "Draft.take_name" = true) (kTn : PySem.W.keepIn K (.ref fTn) = true)
    (mOp : PySem.W.findIn K (.ref CD) "open_piece" = some (some (.ref fOp))) (iOp : PySem.W.isFn K (.ref fOp) = true)
    (lOp : K.lookup fOp = some ⟨ocOp, odOp, .func (PySem.W.fnOf "open_piece" "Draft.open_piece" (defArgs (sDraft 6)) (defBody (sDraft 6)) (defScope (sDraft 6)) .none kVOp dcOp pmOp anOp cdOp ctOp), slOp⟩) (cOp : PySem.W.codeIn K cdOp "Draft.open_piece" = true) (kOp : PySem.W.keepIn K (.ref fOp) = true)
    (mWi : PySem.W.findIn K (.ref CD) "take_within" = some (some (.ref fWi))) (iWi : PySem.W.isFn K (.ref fWi) = true)
    (lWi : K.lookup fWi = some ⟨ocWi, odWi, .func (PySem.W.fnOf "take_within" "Draft.take_within" (defArgs (sDraft 7)) (defBody (sDraft 7)) (defScope (sDraft 7)) .none kVWi dcWi pmWi anWi cdWi ctWi), slWi⟩) (cWi : PySem.W.codeIn K cdWi "Draft.take_within" = true) (kWi : PySem.W.keepIn K (.ref fWi) = true)
    (mCl : PySem.W.findIn K (.ref CD) "close_piece" = some (some (.ref fCl))) (iCl : PySem.W.isFn K (.ref fCl) = true)
    (lCl : K.lookup fCl = some ⟨ocCl, odCl, .func (PySem.W.fnOf "close_piece" "Draft.close_piece" (defArgs (sDraft 8)) (defBody (sDraft 8)) (defScope (sDraft 8)) .none kVCl dcCl pmCl anCl cdCl ctCl), slCl⟩) (cCl : PySem.W.codeIn K cdCl "Draft.close_piece" = true) (kCl : PySem.W.keepIn K (.ref fCl) = true)
    : ∃ fd : FuncData, (∀ (s : Shared) (v : Value), BindsTo s fd ⟨[v], []⟩ [("_law_script", v)]) ∧ ∀ base : Heap, K.In base → base.Ns mainGlobals mg → FnOk l.prog w K mg base CX0 9 fa fd ["_law_script"] (spLaw K) := by
  have e := hfa.symm.trans (PySem.W.mg_of X G aLa)
  cases e
  have lF : ∀ z, PySem.W.nsIn K dF z = some ((formOf z).map fun _ => Value.ref (tFn [g0, g1, g2, g3, g4, g5, g6, g7, g8, g9, g10, g11] z)) := by
    intro z
    cases hz : formOf z with
    | none =>
      refine ns_none (ks := FORM.map Prod.fst) xFO (by rw [keFO, List.map_map]; rfl) ?_
      cases hc : (FORM.map Prod.fst).contains z with
      | false => rfl
      | true =>
        have hm : z ∈ FORM.map Prod.fst := by simpa using hc
        have key : ∀ k ∈ FORM.map Prod.fst, (formOf k).isSome = true := by decide +kernel
        have := key z hm
        rw [hz] at this
        cases this
    | some ws =>
      have hm : z ∈ FORM.map Prod.fst := List.mem_map.mpr ⟨_, PySem.mem_of_lookup hz, rfl⟩
      have hm : z = "call" ∨ z = "callr" ∨ z = "ret" ∨ z = "addr" ∨ z = "set" ∨ z = "move" ∨ z = "read" ∨ z = "readr" ∨ z = "same" ∨ z = "choose" ∨ z = "tell" ∨ z = "go" := by simpa [FORM] using hm
      rcases hm with rfl | rfl | rfl | rfl | rfl | rfl | rfl | rfl | rfl | rfl | rfl | rfl
      · exact e0
      · exact e1
      · exact e2
      · exact e3
      · exact e4
      · exact e5
      · exact e6
      · exact e7
      · exact e8
      · exact e9
      · exact e10
      · exact e11
  have tF : ∀ z ws, formOf z = some ws → KT K (tFn [g0, g1, g2, g3, g4, g5, g6, g7, g8, g9, g10, g11] z) (ws.map V.str) := by
    intro z ws hz
    have hm : z ∈ FORM.map Prod.fst := List.mem_map.mpr ⟨_, PySem.mem_of_lookup hz, rfl⟩
    have hm : z = "call" ∨ z = "callr" ∨ z = "ret" ∨ z = "addr" ∨ z = "set" ∨ z = "move" ∨ z = "read" ∨ z = "readr" ∨ z = "same" ∨ z = "choose" ∨ z = "tell" ∨ z = "go" := by simpa [FORM] using hm
    rcases hm with rfl | rfl | rfl | rfl | rfl | rfl | rfl | rfl | rfl | rfl | rfl | rfl
    · cases hz; exact kt_mk x0 y0 d0 s0 v0
    · cases hz; exact kt_mk x1 y1 d1 s1 v1
    · cases hz; exact kt_mk x2 y2 d2 s2 v2
    · cases hz; exact kt_mk x3 y3 d3 s3 v3
    · cases hz; exact kt_mk x4 y4 d4 s4 v4
    · cases hz; exact kt_mk x5 y5 d5 s5 v5
    · cases hz; exact kt_mk x6 y6 d6 s6 v6
    · cases hz; exact kt_mk x7 y7 d7 s7 v7
    · cases hz; exact kt_mk x8 y8 d8 s8 v8
    · cases hz; exact kt_mk x9 y9 d9 s9 v9
    · cases hz; exact kt_mk x10 y10 d10 s10 v10
    · cases hz; exact kt_mk x11 y11 d11 s11 v11
  have T : TX.TT K w mg aO aR dF es nF (tFn [g0, g1, g2, g3, g4, g5, g6, g7, g8, g9, g10, g11]) := ⟨⟨_, (PySem.W.mg_of X G aLE)⟩, ⟨_, (PySem.W.mg_of X G aDI)⟩, ⟨_, (PySem.W.mg_of X G aL8)⟩, (PySem.W.mg_of X G aOT), kt_mk xOT yOT dOT sOT vOT, (PySem.W.mg_of X G aRE), kt_mk xRE yRE dRE sRE vRE, (PySem.W.mg_of X G aFO), ⟨xFO, klFO, lwFO⟩, lF, tF, (PySem.W.mg_none_of X G zisinstance), (PySem.W.mg_none_of X G zstr), (PySem.W.mg_none_of X G zlen), (PySem.W.mg_none_of X G zall), (PySem.W.mg_none_of X G zany), (PySem.W.mg_none_of X G zint), (PySem.W.mg_none_of X G zzip)⟩
  have FNm := fun_mk (st := sIsName) lNm cNm kNm
  have bNm := FNm.binds (ps := ["value"]) fun _ _ _ _ _ _ us hl => match us, hl with | [_], _ => rfl
  have FRi := fun_mk (st := sReadInt) lRi cRi kRi
  have bRi := FRi.binds (ps := ["word"]) fun _ _ _ _ _ _ us hl => match us, hl with | [_], _ => rfl
  have FRp := fun_mk (st := sReadPart) lRp cRp kRp
  have bRp := FRp.binds (ps := ["word", "sort"]) fun _ _ _ _ _ _ us hl => match us, hl with | [_, _], _ => rfl
  have FRs := fun_mk (st := sReadParts) lRs cRs kRs
  have bRs := FRs.binds (ps := ["words", "form"]) fun _ _ _ _ _ _ us hl => match us, hl with | [_, _], _ => rfl
  have FIn := fun_mk (st := sReadIns) lIn cIn kIn
  have bIn := FIn.binds (ps := ["words"]) fun _ _ _ _ _ _ us hl => match us, hl with | [_], _ => rfl
  have FDa := fun_mk (st := sReadDat) lDa cDa kDa
  have bDa := FDa.binds (ps := ["words"]) fun _ _ _ _ _ _ us hl => match us, hl with | [_], _ => rfl
  have FTa := fun_mk (st := sTarget) lTa cTa kTa
  have bTa := FTa.binds (ps := ["row"]) fun _ _ _ _ _ _ us hl => match us, hl with | [_], _ => rfl
  have FSp := fun_mk (st := sSplit) lSp cSp kSp
  have bSp := FSp.binds (ps := ["text"]) fun _ _ _ _ _ _ us hl => match us, hl with | [_], _ => rfl
  have FPa := fun_mk (st := sParse) lPa cPa kPa
  have bPa := FPa.binds (ps := ["text"]) fun _ _ _ _ _ _ us hl => match us, hl with | [_], _ => rfl
  have FRL := fun_mk (st := KD.sRowLine) lRL cRL kRL
  have bRL := FRL.binds (ps := ["row"]) fun _ _ _ _ _ _ us hl => match us, hl with | [_], _ => rfl
  have FML := fun_mk (st := KD.sLines) lML cML kML
  have bML := FML.binds (ps := ["module"]) fun _ _ _ _ _ _ us hl => match us, hl with | [_], _ => rfl
  have FLPo := fun_mk (st := TopL.sPool) lLPo cLPo kLPo
  have bLPo := FLPo.binds (ps := ["_law_script", "_law_k"]) fun _ _ _ _ _ _ us hl => match us, hl with | [_, _], _ => rfl
  have FLTk := fun_mk (st := TopL.sTake) lLTk cLTk kLTk
  have bLTk := FLTk.binds (ps := ["_law_pool_here", "_law_many"]) fun _ _ _ _ _ _ us hl => match us, hl with | [_, _], _ => rfl
  have FLIn := fun_mk (st := KD.sIns) lLIn cLIn kLIn
  have bLIn := FLIn.binds (ps := ["_law_pool_here", "_law_many"]) fun _ _ _ _ _ _ us hl => match us, hl with | [_, _], _ => rfl
  have FLPi := fun_mk (st := KD.sPie) lLPi cLPi kLPi
  have bLPi := FLPi.binds (ps := ["_law_pool_here", "_law_name"]) fun _ _ _ _ _ _ us hl => match us, hl with | [_, _], _ => rfl
  have FLSh := fun_mk (st := KD.sShown) lLSh cLSh kLSh
  have bLSh := FLSh.binds (ps := ["_law_piece_here"]) fun _ _ _ _ _ _ us hl => match us, hl with | [_], _ => rfl
  have FLRi := fun_mk (st := KD.sRight) lLRi cLRi kLRi
  have bLRi := FLRi.binds (ps := ["_law_module", "_law_exports", "_law_aliases", "_law_pieces"]) fun _ _ _ _ _ _ us hl => match us, hl with | [_, _, _, _], _ => rfl
  have FLCm := fun_mk (st := KD.sCmp) lLCm cLCm kLCm
  have bLCm := FLCm.binds (ps := ["_law_rows", "_law_pieces", "_law_module", "_law_more"]) fun _ _ _ _ _ _ us hl => match us, hl with | [_, _, _, _], _ => rfl
  have FLa := fun_mk (st := KD.sLaw) lLa cLa kLa
  have bLa := FLa.binds (ps := ["_law_script"]) fun _ _ _ _ _ _ us hl => match us, hl with | [_], _ => rfl
  have FB := fun_mk (st := sBadI) lB cB kB
  have bB := FB.binds (ps := ["self", "row"]) fun _ _ _ _ _ _ us hl => match us, hl with | [_, _], _ => rfl
  have FPI := fun_mk (st := sPieceI) lPI cPI kPI
  have bPI := FPI.binds (ps := ["self", "name", "kind", "rows"]) fun _ _ _ _ _ _ us hl => match us, hl with | [_, _, _, _], _ => rfl
  have FPL := fun_mk (st := KD.sPieceL) lPL cPL kPL
  have bPL := FPL.binds (ps := ["self"]) fun _ _ _ _ _ _ us hl => match us, hl with | [_], _ => rfl
  have FPE := fun_mk (st := KD.sPieceE) lPE cPE kPE
  have bPE := FPE.binds (ps := ["self", "other"]) fun _ _ _ _ _ _ us hl => match us, hl with | [_, _], _ => rfl
  have FMI := fun_mk (st := sModI) lMI cMI kMI
  have bMI := FMI.binds (ps := ["self", "pieces", "exports", "aliases"]) fun _ _ _ _ _ _ us hl => match us, hl with | [_, _, _, _], _ => rfl
  have FMC := fun_mk (st := KD.sModC) lMC cMC kMC
  have bMC := FMC.binds (ps := ["self", "name"]) fun _ _ _ _ _ _ us hl => match us, hl with | [_, _], _ => rfl
  have FMS := fun_mk (st := KD.sModS) lMS cMS kMS
  have bMS := FMS.binds (ps := ["self"]) fun _ _ _ _ _ _ us hl => match us, hl with | [_], _ => rfl
  have FMit := fun_mk (st := (inClass (top (TX.o + 11)) 3)) lMit cMit kMit
  have bMit := FMit.binds (ps := ["self"]) fun _ _ _ _ _ _ us hl => match us, hl with | [_], _ => rfl
  have FME := fun_mk (st := KD.sModE) lME cME kME
  have bME := FME.binds (ps := ["self", "other"]) fun _ _ _ _ _ _ us hl => match us, hl with | [_, _], _ => rfl
  have FDI := fun_mk (st := (sDraft 0)) lDI cDI kDI
  have bDI := FDI.binds (ps := ["self"]) fun _ _ _ _ _ _ us hl => match us, hl with | [_], _ => rfl
  have FTk := fun_mk (st := (sDraft 1)) lTk cTk kTk
  have bTk := FTk.binds (ps := ["self", "number", "words"]) fun _ _ _ _ _ _ us hl => match us, hl with | [_, _, _], _ => rfl
  have FBt := fun_mk (st := (sDraft 2)) lBt cBt kBt
  have bBt := FBt.binds (ps := ["self", "number", "words"]) fun _ _ _ _ _ _ us hl => match us, hl with | [_, _, _], _ => rfl
  have FEx := fun_mk (st := (sDraft 3)) lEx cEx kEx
  have bEx := FEx.binds (ps := ["self", "names"]) fun _ _ _ _ _ _ us hl => match us, hl with | [_, _], _ => rfl
  have FAl := fun_mk (st := (sDraft 4)) lAl cAl kAl
  have bAl := FAl.binds (ps := ["self", "names"]) fun _ _ _ _ _ _ us hl => match us, hl with | [_, _], _ => rfl
  have FTn := fun_mk (st := (sDraft 5)) lTn cTn kTn
  have bTn := FTn.binds (ps := ["self", "name"]) fun _ _ _ _ _ _ us hl => match us, hl with | [_, _], _ => rfl
  have FOp := fun_mk (st := (sDraft 6)) lOp cOp kOp
  have bOp := FOp.binds (ps := ["self", "number", "words"]) fun _ _ _ _ _ _ us hl => match us, hl with | [_, _, _], _ => rfl
  have FWi := fun_mk (st := (sDraft 7)) lWi cWi kWi
  have bWi := FWi.binds (ps := ["self", "words"]) fun _ _ _ _ _ _ us hl => match us, hl with | [_, _], _ => rfl
  have FCl := fun_mk (st := (sDraft 8)) lCl cCl kCl
  have bCl := FCl.binds (ps := ["self"]) fun _ _ _ _ _ _ us hl => match us, hl with | [_], _ => rfl
  have nePD : CP ≠ CD := fun e => by rw [e] at nCPtake; rw [nCPtake] at mTk; cases mTk
  have nePM : CP ≠ CM := fun e => by rw [e] at nCP__iter__; rw [nCP__iter__] at mMit; cases mMit
  have TC1 : TC K CD CP := ⟨⟨pgCD, hdCD, poCD, saCD⟩, nCDpieces, nCDexports, nCDaliases, nCDnamed, nCDkind, nCDname, nCDstart, nCDrows, ⟨pgCP, hdCP, poCP, saCP⟩, nCPname, nCPkind, nCProws, nePD⟩
  have EB : EC K mg "BadText" CB fB := ec_mk X G aB xLB bvB saB gaB ggB a1B t1B kCB eCB tCB hCB cCB mCB hn ht
  have B : TB K mg CP CB fPI fB := ⟨EB, (PySem.W.mg_of X G aCP), ⟨mkCP, mPI, iPI, kcCP⟩, (PySem.W.mg_none_of X G ztuple), (PySem.W.mg_none_of X G zenumerate)⟩
  have M : TM K mg aK := ⟨⟨_, (PySem.W.mg_of X G aMP)⟩, ⟨_, (PySem.W.mg_of X G aMR)⟩, (PySem.W.mg_of X G aKI), kt_mk xKI yKI dKI sKI vKI⟩
  have Md : TMd K CM := ⟨⟨pgCM, hdCM, poCM, saCM⟩, nCMpieces, nCMexports, nCMaliases, nCM_named⟩
  have Gp : TP K mg CD CM fDI fMI := ⟨(PySem.W.mg_of X G aCD), ⟨mkCD, mDI, iDI, kcCD⟩, (PySem.W.mg_of X G aCM), ⟨mkCM, mMI, iMI, kcCM⟩⟩
  have Ln : TLn K CM CP := ⟨⟨pgCM, hdCM, poCM, saCM⟩, nCMpieces, nCMexports, nCMaliases, ⟨pgCP, hdCP, poCP, saCP⟩, nCPname, nCPkind, nCProws⟩
  have ClP : TCl K CP := ⟨cCP, hn, ht, mCP⟩
  have ClM : TCl K CM := ⟨cCM, hn, ht, mCM⟩
  have Zz : TZ mg := ⟨(PySem.W.mg_none_of X G zrange), (PySem.W.mg_none_of X G zmax), (PySem.W.mg_none_of X G zmin), (PySem.W.mg_none_of X G zlen), (PySem.W.mg_none_of X G zstr), (PySem.W.mg_none_of X G zint)⟩
  refine ⟨PySem.W.fnOf "law" "law" (defArgs KD.sLaw) (defBody KD.sLaw) (defScope KD.sLaw) .none kVLa dcLa pmLa anLa cdLa ctLa, fun s v => .of_eq rfl, fun base _ _ => ?_⟩
  have GNm : FnOk l.prog w K mg base CX0 1 fNm _ ["value"] (spIsName K) := ok_isName FNm T
  have GRi : FnOk l.prog w K mg base CX0 1 fRi _ ["word"] spReadInt := ok_readInt FRi T
  have GRp : FnOk l.prog w K mg base CX0 2 fRp _ ["word", "sort"] spReadPart := ok_readPart FRp T GNm bNm (PySem.W.mg_of X G aNm) kNm GRi bRi (PySem.W.mg_of X G aRi) kRi
  have GRs : FnOk l.prog w K mg base CX0 3 fRs _ ["words", "form"] (spReadParts K) := ok_readParts FRs T GRp bRp (PySem.W.mg_of X G aRp) kRp
  have GIn : FnOk l.prog w K mg base CX0 4 fIn _ ["words"] (spReadIns K) := ok_readIns FIn T GRs bRs (PySem.W.mg_of X G aRs) kRs
  have GDa : FnOk l.prog w K mg base CX0 2 fDa _ ["words"] (spReadDat K) := ok_readDat FDa T GNm bNm (PySem.W.mg_of X G aNm) kNm GRi bRi (PySem.W.mg_of X G aRi) kRi
  have GTa : FnOk l.prog w K mg base CX0 1 fTa _ ["row"] (spTarget K) := ok_target FTa T
  have GSp : FnOk l.prog w K mg base CX0 1 fSp _ ["text"] spSplit := ok_split FSp
  have GB : FnOk l.prog w K mg base CX0 1 fB _ ["self", "row"] (spBad CB "row") := ok_badI FB EB noBrow
  have GPI : FnOk l.prog w K mg base CX0 1 fPI _ ["self", "name", "kind", "rows"] (spPieceI CP) := ok_pieceI FPI TC1
  have GMI : FnOk l.prog w K mg base CX0 1 fMI _ ["self", "pieces", "exports", "aliases"] (spModI CM CP) := ok_modI FMI TC1 Md nePM
  have GDI : FnOk l.prog w K mg base CX0 1 fDI _ ["self"] (spDraftI CD CP) := ok_draftI FDI TC1
  have GTn : FnOk l.prog w K mg base CX0 2 fTn _ ["self", "name"] (spTakeName CD CP) := ok_takeName FTn TC1 GNm bNm (PySem.W.mg_of X G aNm) kNm
  have GEx : FnOk l.prog w K mg base CX0 2 fEx _ ["self", "names"] (spTakeExports CD CP) := ok_takeExports FEx TC1 (PySem.W.mg_none_of X G zlen) GNm bNm (PySem.W.mg_of X G aNm) kNm
  have GAl : FnOk l.prog w K mg base CX0 3 fAl _ ["self", "names"] (spTakeAlias CD CP) := ok_takeAlias FAl TC1 (PySem.W.mg_none_of X G zlen) GNm bNm (PySem.W.mg_of X G aNm) kNm GTn bTn ⟨mTn, iTn, kTn⟩
  have GOp : FnOk l.prog w K mg base CX0 3 fOp _ ["self", "number", "words"] (spOpen CD CP) := ok_open FOp TC1 M (PySem.W.mg_none_of X G zlen) GTn bTn ⟨mTn, iTn, kTn⟩
  have GBt : FnOk l.prog w K mg base CX0 4 fBt _ ["self", "number", "words"] (spBetween CD CP) := ok_between FBt TC1 M GEx bEx ⟨mEx, iEx, kEx⟩ GAl bAl ⟨mAl, iAl, kAl⟩ GOp bOp ⟨mOp, iOp, kOp⟩
  have GWi : FnOk l.prog w K mg base CX0 5 fWi _ ["self", "words"] (spWithin CD CP) := ok_within FWi TC1 M (PySem.W.mg_none_of X G zlen) GIn bIn (PySem.W.mg_of X G aIn) kIn GDa bDa (PySem.W.mg_of X G aDa) kDa
  have GCl : FnOk l.prog w K mg base (L2.CX l.prog w) 3 fCl _ ["self"] (spClose CD CP CB) := ok_close FCl TC1 B (PySem.W.mg_none_of X G zlen) GTa bTa (PySem.W.mg_of X G aTa) kTa GPI bPI GB bB
  have GTk : FnOk l.prog w K mg base (L2.CX l.prog w) 6 fTk _ ["self", "number", "words"] (spTake CD CP CB) := ok_take FTk TC1 B GBt bBt ⟨mBt, iBt, kBt⟩ GWi bWi ⟨mWi, iWi, kWi⟩ GCl bCl ⟨mCl, iCl, kCl⟩ GB bB
  have GPa : FnOk l.prog w K mg base (L2.CX l.prog w) 7 fPa _ ["text"] (spParse K CB CM CP) := ok_parse FPa TC1 T B Md nePM Gp GSp bSp (PySem.W.mg_of X G aSp) kSp GTk bTk ⟨mTk, iTk, kTk⟩ GDI bDI GMI bMI GB bB
  have GPL : FnOk l.prog w K mg base CX0 1 fPL _ ["self"] (spPLen CP) := ok_plen FPL (PySem.W.mg_none_of X G zlen) Ln
  have GPE : FnOk l.prog w K mg base CX0 1 fPE _ ["self", "other"] (spPEq CP) := ok_peq FPE Ln ClP (PySem.W.mg_none_of X G zisinstance) (PySem.W.mg_of X G aCP)
  have GMC : FnOk l.prog w K mg base CX0 1 fMC _ ["self", "name"] (spHas CM CP) := ok_has FMC (PySem.W.mg_none_of X G zisinstance) (PySem.W.mg_none_of X G zstr) Md
  have GRL : FnOk l.prog w K mg base CX0 1 fRL _ ["row"] spRowLine := ok_rowline FRL (PySem.W.mg_none_of X G zisinstance) (PySem.W.mg_none_of X G ztuple) (PySem.W.mg_none_of X G zstr)
  have GML : FnOk l.prog w K mg base CX0 2 fML _ ["module"] (spLines CM CP) := ok_lines FML Ln GRL bRL (PySem.W.mg_of X G aRL) kRL
  have GMS : FnOk l.prog w K mg base CX0 3 fMS _ ["self"] (spMStr CM CP) := ok_mstr FMS GML bML (PySem.W.mg_of X G aML) kML
  have GME : FnOk l.prog w K mg base CX0 3 fME _ ["self", "other"] (spMEq CM CP) := ok_meq FME Ln ClM (PySem.W.mg_none_of X G zisinstance) (PySem.W.mg_of X G aCM) GPE bPE mPE iPE
  have GLPo : FnOk l.prog w K mg base CX0 1 fLPo _ ["_law_script", "_law_k"] (LP.spPool K) := LP.ok_pool FLPo (PySem.W.mg_none_of X G zlen) (PySem.W.mg_none_of X G zabs) (PySem.W.mg_none_of X G zint)
  have GLTk : FnOk l.prog w K mg base CX0 1 fLTk _ ["_law_pool_here", "_law_many"] LP.spTake := LP.ok_take FLTk
  have GLIn : FnOk l.prog w K mg base CX0 2 fLIn _ ["_law_pool_here", "_law_many"] spIns := ok_ins FLIn GLTk bLTk (PySem.W.mg_of X G aLTk) kLTk
  have GLPi : FnOk l.prog w K mg base CX0 3 fLPi _ ["_law_pool_here", "_law_name"] spPie := ok_pie FLPi (PySem.W.mg_none_of X G zrange) (PySem.W.mg_none_of X G ztuple) GLTk bLTk (PySem.W.mg_of X G aLTk) kLTk GLIn bLIn (PySem.W.mg_of X G aLIn) kLIn
  have GLSh : FnOk l.prog w K mg base CX0 1 fLSh _ ["_law_piece_here"] spShown := ok_shown FLSh (PySem.W.mg_none_of X G zstr)
  have GLRi : FnOk l.prog w K mg base CX0 3 fLRi _ ["_law_module", "_law_exports", "_law_aliases", "_law_pieces"] (spRight CM CP) := ok_right FLRi Ln (PySem.W.mg_none_of X G ztuple) (PySem.W.mg_none_of X G zlen) (PySem.W.mg_none_of X G zisinstance) GMC bMC mMC iMC GPL bPL mPL iPL
  have GLCm : FnOk l.prog w K mg base CX0 8 fLCm _ ["_law_rows", "_law_pieces", "_law_module", "_law_more"] (spCmp CM CP) := ok_cmp FLCm Ln (PySem.W.mg_none_of X G zlist) GPa bPa (PySem.W.mg_of X G aPa) kPa GME bME mME iME GPE bPE mPE iPE
  exact ok_law FLa Zz GLPo bLPo (PySem.W.mg_of X G aLPo) kLPo GLTk bLTk (PySem.W.mg_of X G aLTk) kLTk GLPi bLPi (PySem.W.mg_of X G aLPi) kLPi GLSh bLSh (PySem.W.mg_of X G aLSh) kLSh GLRi bLRi (PySem.W.mg_of X G aLRi) kLRi GLCm bLCm (PySem.W.mg_of X G aLCm) kLCm GPa bPa (PySem.W.mg_of X G aPa) kPa GME bME mME iME mCM eNM GMS bMS mMS iMS
end KD

set_option Elab.async false
set_option linter.all false
open PySem PySem.W PyProof.Rows in
set_option maxRecDepth 100000 in
set_option maxHeartbeats 0 in
theorem PySem.Challenge.cw_foldsame_k10_module_texts_holds : PySem.Challenge.rw_foldsame_k10_module_texts.Holds := by
  w_on; o_law; k_head; (case hw => w_witness2)
  k_fill
  refine L2.walk_of (l := PySem.Challenge.rw_foldsame_k10_module_texts) (n := 63) (k := 9) (x := "_law_script") (CX := fun _ => L2.CX0) (sp := fun w => KD.spLaw _) rfl (by decide) rfl ⟨rfl, by decide, by decide⟩ (fun w h Y => PySem.W.kIn_of Y) ?F (fun _ _ a ns hl _ hS => ⟨a, ns, rfl, hS, hl, fun _ => rfl⟩) (fun _ _ _ _ _ h => h)
  case F =>
    intro w mg fa h KX G hmg
    refine' KD.all_mk KX G hmg ?aLE ?aDI ?aL8 ?aMR ?aMP ?aOT ?xOT ?yOT ?dOT ?sOT ?vOT ?aRE ?xRE ?yRE ?dRE ?sRE ?vRE ?aKI ?xKI ?yKI ?dKI ?sKI ?vKI ?aFO ?xFO ?keFO ?klFO ?lwFO ?e0 ?x0 ?y0 ?d0 ?s0 ?v0 ?u0 ?e1 ?x1 ?y1 ?d1 ?s1 ?v1 ?u1 ?e2 ?x2 ?y2 ?d2 ?s2 ?v2 ?u2 ?e3 ?x3 ?y3 ?d3 ?s3 ?v3 ?u3 ?e4 ?x4 ?y4 ?d4 ?s4 ?v4 ?u4 ?e5 ?x5 ?y5 ?d5 ?s5 ?v5 ?u5 ?e6 ?x6 ?y6 ?d6 ?s6 ?v6 ?u6 ?e7 ?x7 ?y7 ?d7 ?s7 ?v7 ?u7 ?e8 ?x8 ?y8 ?d8 ?s8 ?v8 ?u8 ?e9 ?x9 ?y9 ?d9 ?s9 ?v9 ?u9 ?e10 ?x10 ?y10 ?d10 ?s10 ?v10 ?u10 ?e11 ?x11 ?y11 ?d11 ?s11 ?v11 ?u11 ?zisinstance ?zstr ?zlen ?zall ?zany ?zint ?zzip ?ztuple ?zenumerate ?zrange ?zlist ?zmax ?zmin ?zabs ?aNm ?lNm ?cNm ?kNm ?aRi ?lRi ?cRi ?kRi ?aRp ?lRp ?cRp ?kRp ?aRs ?lRs ?cRs ?kRs ?aIn ?lIn ?cIn ?kIn ?aDa ?lDa ?cDa ?kDa ?aTa ?lTa ?cTa ?kTa ?aSp ?lSp ?cSp ?kSp ?aPa ?lPa ?cPa ?kPa ?aRL ?lRL ?cRL ?kRL ?aML ?lML ?cML ?kML ?aLPo ?lLPo ?cLPo ?kLPo ?aLTk ?lLTk ?cLTk ?kLTk ?aLIn ?lLIn ?cLIn ?kLIn ?aLPi ?lLPi ?cLPi ?kLPi ?aLSh ?lLSh ?cLSh ?kLSh ?aLRi ?lLRi ?cLRi ?kLRi ?aLCm ?lLCm ?cLCm ?kLCm ?aLa ?lLa ?cLa ?kLa ?hn ?ht ?aB ?xLB ?bvB ?saB ?gaB ?ggB ?a1B ?t1B ?kCB ?eCB ?tCB ?hCB ?cCB ?mCB ?lB ?cB ?kB ?noBrow ?iCB ?sCB ?aCP ?pgCP ?hdCP ?poCP ?saCP ?mkCP ?kcCP ?nCPname ?nCPkind ?nCProws ?nCPtake ?nCP__iter__ ?mPI ?iPI ?lPI ?cPI ?kPI ?mPL ?iPL ?lPL ?cPL ?kPL ?mPE ?iPE ?lPE ?cPE ?kPE ?cCP ?mCP ?aCM ?pgCM ?hdCM ?poCM ?saCM ?mkCM ?kcCM ?nCMpieces ?nCMexports ?nCMaliases ?nCM_named ?cCM ?mCM ?eNM ?mMI ?iMI ?lMI ?cMI ?kMI ?mMC ?iMC ?lMC ?cMC ?kMC ?mMS ?iMS ?lMS ?cMS ?kMS ?mMit ?iMit ?lMit ?cMit ?kMit ?mME ?iME ?lME ?cME ?kME ?aCD ?pgCD ?hdCD ?poCD ?saCD ?mkCD ?kcCD ?nCDpieces ?nCDexports ?nCDaliases ?nCDnamed ?nCDkind ?nCDname ?nCDstart ?nCDrows ?mDI ?iDI ?lDI ?cDI ?kDI ?mTk ?iTk ?lTk ?cTk ?kTk ?mBt ?iBt ?lBt ?cBt ?kBt ?mEx ?iEx ?lEx ?cEx ?kEx ?mAl ?iAl ?lAl ?cAl ?kAl ?mTn ?iTn ?lTn ?cTn ?kTn ?mOp ?iOp ?lOp ?cOp ?kOp ?mWi ?iWi ?lWi ?cWi ?kWi ?mCl ?iCl ?lCl ?cCl ?kCl
    (case aLE => k_is)
    (case aDI => k_is)
    (case aL8 => k_is)
    (case aMR => k_is)
    (case aMP => k_is)
    (case aOT => k_is)
    (case xOT => k_is)
    (case yOT => rfl)
    (case dOT => rfl)
    (case sOT => decide)
    (case vOT => (repeat (first | exact .nil | refine .cons ⟨_, rfl⟩ ?_)))
    (case aRE => k_is)
    (case xRE => k_is)
    (case yRE => rfl)
    (case dRE => rfl)
    (case sRE => decide)
    (case vRE => (repeat (first | exact .nil | refine .cons ⟨_, rfl⟩ ?_)))
    (case aKI => k_is)
    (case xKI => k_is)
    (case yKI => rfl)
    (case dKI => rfl)
    (case sKI => decide)
    (case vKI => (repeat (first | exact .nil | refine .cons ⟨_, rfl⟩ ?_)))
    (case aFO => k_is)
    (case xFO => k_is)
    (case keFO => rfl)
    (case klFO => k_keys)
    (case lwFO => first | rfl | decide)
    (case e0 => k_is)
    (case x0 => k_is)
    (case y0 => rfl)
    (case d0 => rfl)
    (case s0 => decide)
    (case v0 => (repeat (first | exact .nil | refine .cons ⟨_, rfl⟩ ?_)))
    (case u0 => rfl)
    (case e1 => k_is)
    (case x1 => k_is)
    (case y1 => rfl)
    (case d1 => rfl)
    (case s1 => decide)
    (case v1 => (repeat (first | exact .nil | refine .cons ⟨_, rfl⟩ ?_)))
    (case u1 => rfl)
    (case e2 => k_is)
    (case x2 => k_is)
    (case y2 => rfl)
    (case d2 => rfl)
    (case s2 => decide)
    (case v2 => (repeat (first | exact .nil | refine .cons ⟨_, rfl⟩ ?_)))
    (case u2 => rfl)
    (case e3 => k_is)
    (case x3 => k_is)
    (case y3 => rfl)
    (case d3 => rfl)
    (case s3 => decide)
    (case v3 => (repeat (first | exact .nil | refine .cons ⟨_, rfl⟩ ?_)))
    (case u3 => rfl)
    (case e4 => k_is)
    (case x4 => k_is)
    (case y4 => rfl)
    (case d4 => rfl)
    (case s4 => decide)
    (case v4 => (repeat (first | exact .nil | refine .cons ⟨_, rfl⟩ ?_)))
    (case u4 => rfl)
    (case e5 => k_is)
    (case x5 => k_is)
    (case y5 => rfl)
    (case d5 => rfl)
    (case s5 => decide)
    (case v5 => (repeat (first | exact .nil | refine .cons ⟨_, rfl⟩ ?_)))
    (case u5 => rfl)
    (case e6 => k_is)
    (case x6 => k_is)
    (case y6 => rfl)
    (case d6 => rfl)
    (case s6 => decide)
    (case v6 => (repeat (first | exact .nil | refine .cons ⟨_, rfl⟩ ?_)))
    (case u6 => rfl)
    (case e7 => k_is)
    (case x7 => k_is)
    (case y7 => rfl)
    (case d7 => rfl)
    (case s7 => decide)
    (case v7 => (repeat (first | exact .nil | refine .cons ⟨_, rfl⟩ ?_)))
    (case u7 => rfl)
    (case e8 => k_is)
    (case x8 => k_is)
    (case y8 => rfl)
    (case d8 => rfl)
    (case s8 => decide)
    (case v8 => (repeat (first | exact .nil | refine .cons ⟨_, rfl⟩ ?_)))
    (case u8 => rfl)
    (case e9 => k_is)
    (case x9 => k_is)
    (case y9 => rfl)
    (case d9 => rfl)
    (case s9 => decide)
    (case v9 => (repeat (first | exact .nil | refine .cons ⟨_, rfl⟩ ?_)))
    (case u9 => rfl)
    (case e10 => k_is)
    (case x10 => k_is)
    (case y10 => rfl)
    (case d10 => rfl)
    (case s10 => decide)
    (case v10 => (repeat (first | exact .nil | refine .cons ⟨_, rfl⟩ ?_)))
    (case u10 => rfl)
    (case e11 => k_is)
    (case x11 => k_is)
    (case y11 => rfl)
    (case d11 => rfl)
    (case s11 => decide)
    (case v11 => (repeat (first | exact .nil | refine .cons ⟨_, rfl⟩ ?_)))
    (case u11 => rfl)
    (case zisinstance => k_is)
    (case zstr => k_is)
    (case zlen => k_is)
    (case zall => k_is)
    (case zany => k_is)
    (case zint => k_is)
    (case zzip => k_is)
    (case ztuple => k_is)
    (case zenumerate => k_is)
    (case zrange => k_is)
    (case zlist => k_is)
    (case zmax => k_is)
    (case zmin => k_is)
    (case zabs => k_is)
    (case aNm => k_is)
    (case lNm => k_is)
    (case cNm => k_is)
    (case kNm => k_is)
    (case aRi => k_is)
    (case lRi => k_is)
    (case cRi => k_is)
    (case kRi => k_is)
    (case aRp => k_is)
    (case lRp => k_is)
    (case cRp => k_is)
    (case kRp => k_is)
    (case aRs => k_is)
    (case lRs => k_is)
    (case cRs => k_is)
    (case kRs => k_is)
    (case aIn => k_is)
    (case lIn => k_is)
    (case cIn => k_is)
    (case kIn => k_is)
    (case aDa => k_is)
    (case lDa => k_is)
    (case cDa => k_is)
    (case kDa => k_is)
    (case aTa => k_is)
    (case lTa => k_is)
    (case cTa => k_is)
    (case kTa => k_is)
    (case aSp => k_is)
    (case lSp => k_is)
    (case cSp => k_is)
    (case kSp => k_is)
    (case aPa => k_is)
    (case lPa => k_is)
    (case cPa => k_is)
    (case kPa => k_is)
    (case aRL => k_is)
    (case lRL => k_is)
    (case cRL => k_is)
    (case kRL => k_is)
    (case aML => k_is)
    (case lML => k_is)
    (case cML => k_is)
    (case kML => k_is)
    (case aLPo => k_is)
    (case lLPo => k_is)
    (case cLPo => k_is)
    (case kLPo => k_is)
    (case aLTk => k_is)
    (case lLTk => k_is)
    (case cLTk => k_is)
    (case kLTk => k_is)
    (case aLIn => k_is)
    (case lLIn => k_is)
    (case cLIn => k_is)
    (case kLIn => k_is)
    (case aLPi => k_is)
    (case lLPi => k_is)
    (case cLPi => k_is)
    (case kLPi => k_is)
    (case aLSh => k_is)
    (case lLSh => k_is)
    (case cLSh => k_is)
    (case kLSh => k_is)
    (case aLRi => k_is)
    (case lLRi => k_is)
    (case cLRi => k_is)
    (case kLRi => k_is)
    (case aLCm => k_is)
    (case lLCm => k_is)
    (case cLCm => k_is)
    (case kLCm => k_is)
    (case aLa => k_is)
    (case lLa => k_is)
    (case cLa => k_is)
    (case kLa => k_is)
    (case hn => k_is)
    (case ht => k_is)
    (case aB => k_is)
    (case xLB => k_is)
    (case bvB => rfl)
    (case saB => k_is)
    (case gaB => k_is)
    (case ggB => k_is)
    (case a1B => k_is)
    (case t1B => k_is)
    (case kCB => k_is)
    (case eCB => k_is)
    (case tCB => k_is)
    (case hCB => k_is)
    (case cCB => k_is)
    (case mCB => k_is)
    (case lB => k_is)
    (case cB => k_is)
    (case kB => k_is)
    (case noBrow => k_is)
    (case iCB => k_is)
    (case sCB => first | rfl | k_is)
    (case aCP => k_is)
    (case pgCP => k_is)
    (case hdCP => k_is)
    (case poCP => k_is)
    (case saCP => k_is)
    (case mkCP => k_is)
    (case kcCP => k_is)
    (case nCPname => k_is)
    (case nCPkind => k_is)
    (case nCProws => k_is)
    (case nCPtake => k_is)
    (case nCP__iter__ => k_is)
    (case mPI => k_is)
    (case iPI => k_is)
    (case lPI => k_is)
    (case cPI => k_is)
    (case kPI => k_is)
    (case mPL => k_is)
    (case iPL => k_is)
    (case lPL => k_is)
    (case cPL => k_is)
    (case kPL => k_is)
    (case mPE => k_is)
    (case iPE => k_is)
    (case lPE => k_is)
    (case cPE => k_is)
    (case kPE => k_is)
    (case cCP => k_is)
    (case mCP => k_is)
    (case aCM => k_is)
    (case pgCM => k_is)
    (case hdCM => k_is)
    (case poCM => k_is)
    (case saCM => k_is)
    (case mkCM => k_is)
    (case kcCM => k_is)
    (case nCMpieces => k_is)
    (case nCMexports => k_is)
    (case nCMaliases => k_is)
    (case nCM_named => k_is)
    (case cCM => k_is)
    (case mCM => k_is)
    (case eNM => k_is)
    (case mMI => k_is)
    (case iMI => k_is)
    (case lMI => k_is)
    (case cMI => k_is)
    (case kMI => k_is)
    (case mMC => k_is)
    (case iMC => k_is)
    (case lMC => k_is)
    (case cMC => k_is)
    (case kMC => k_is)
    (case mMS => k_is)
    (case iMS => k_is)
    (case lMS => k_is)
    (case cMS => k_is)
    (case kMS => k_is)
    (case mMit => k_is)
    (case iMit => k_is)
    (case lMit => k_is)
    (case cMit => k_is)
    (case kMit => k_is)
    (case mME => k_is)
    (case iME => k_is)
    (case lME => k_is)
    (case cME => k_is)
    (case kME => k_is)
    (case aCD => k_is)
    (case pgCD => k_is)
    (case hdCD => k_is)
    (case poCD => k_is)
    (case saCD => k_is)
    (case mkCD => k_is)
    (case kcCD => k_is)
    (case nCDpieces => k_is)
    (case nCDexports => k_is)
    (case nCDaliases => k_is)
    (case nCDnamed => k_is)
    (case nCDkind => k_is)
    (case nCDname => k_is)
    (case nCDstart => k_is)
    (case nCDrows => k_is)
    (case mDI => k_is)
    (case iDI => k_is)
    (case lDI => k_is)
    (case cDI => k_is)
    (case kDI => k_is)
    (case mTk => k_is)
    (case iTk => k_is)
    (case lTk => k_is)
    (case cTk => k_is)
    (case kTk => k_is)
    (case mBt => k_is)
    (case iBt => k_is)
    (case lBt => k_is)
    (case cBt => k_is)
    (case kBt => k_is)
    (case mEx => k_is)
    (case iEx => k_is)
    (case lEx => k_is)
    (case cEx => k_is)
    (case kEx => k_is)
    (case mAl => k_is)
    (case iAl => k_is)
    (case lAl => k_is)
    (case cAl => k_is)
    (case kAl => k_is)
    (case mTn => k_is)
    (case iTn => k_is)
    (case lTn => k_is)
    (case cTn => k_is)
    (case kTn => k_is)
    (case mOp => k_is)
    (case iOp => k_is)
    (case lOp => k_is)
    (case cOp => k_is)
    (case kOp => k_is)
    (case mWi => k_is)
    (case iWi => k_is)
    (case lWi => k_is)
    (case cWi => k_is)
    (case kWi => k_is)
    (case mCl => k_is)
    (case iCl => k_is)
    (case lCl => k_is)
    (case cCl => k_is)
    (case kCl => k_is)
