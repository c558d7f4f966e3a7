import PyProof.Rows.All
import HandS.ForMost
import HandS.ForExc
import HandS.RaiseMore
import HandS.IsInst
import HandS.Wide
import PyProof.ReprRoads
import HandS.TupMul
import HandS.Codes
import KE.KExcInit
import HandS.TupAny
import HandS.Style
import HandS.TupLe
import HandS.DeepEq
import PyProof.ReprLen
import HandS.Strs
import HandS.Zip
import HandS.StrMore
import PySem.Challenge.RW_sharedlets_k01_terms_made
import HandS.List
import PyProof.Rows.StrMeet
import HandS.Star
import HandS.NamedTupSort
import HandS.SortInts
import KE.KDictZip
import KE.KItemsList
import HandS.ListItems
import KE.GoesMore
import HandS.Iter
import HandS.Walk
import KE.KParD
import HandS.Finally
import PyProof.ListStr
set_option Elab.async false
set_option linter.all false
set_option maxRecDepth 100000
set_option maxHeartbeats 4000000
/-! ## Promises that are kept where no repr is under way; repr of data; a law's head -/
namespace Sl
open PySem PySem.Spec PyProof.Rows L2
/-- as FnOk, where the frames around are known to write nothing -/
structure FnG (P : Program) (w : World) (K : PySem.W.Frag) (mg : Str → Option Value) (base : Heap) (CX : CXT) (k : Nat) (f : Addr) (fd : FuncData) (ps : List Str) (sp : Sp) : Prop where
  size : ∀ xs G Q E, sp xs G Q E → xs.length = ps.length
  goes : ∀ A : Around, A.guards = some [] → ∀ (l : List Env) (z : Shared) (G : Hp) (ar : Args) (us : List Value) (xs : List V) (Q : VK) (E : XK), Room k A → Env0 P w K mg base A l z G →
    BindsTo z fd ar (ps.zip us) → Vals xs us → sp xs G Q E → codeAny (model P w) A (.call (.ref f) ar) (CR CX l P w G z Q E) z
theorem FnG.of {P : Program} {w : World} {K : PySem.W.Frag} {mg : Str → Option Value} {base : Heap} {CX : CXT} {k : Nat} {f : Addr} {fd : FuncData} {ps : List Str} {sp : Sp}
    (F : FnOk P w K mg base CX k f fd ps sp) : FnG P w K mg base CX k f fd ps sp :=
  ⟨F.len, fun A _ l z G ar us xs Q E a b c d e => F.run A l z G ar us xs Q E a b c d e⟩
section
variable {X : Cx} {CX : CXT} {k : Nat} {f : Addr} {fd : FuncData} {ps : List Str} {sp : Sp} {dvs : List V} {ds : List Value} {E : XK} {x : Str} {p pos : Pos} {e : Expr} {es : List Expr} {t : TA}
theorem goG {pins : List (Addr × Obj)} {σ : L2.St} {G : Hp} {z : Shared} {Q : VK} {us : List Value} {xs : List V} (hG : X.A.guards = some []) (F : FnG X.prog X.w X.K X.mg X.base CX k f fd ps sp) (hr : Room k X.A) (hb : Binds X.K fd ps ds)
    (hd : Vals dvs ds) (hx : Passes CX X E) (I : Inv X pins σ G z) (r : Vals xs us) (h : sp (xs ++ dvs) G Q E) :
    wpAny (model X.prog X.w) X.A (call (.ref f) us) (EP X pins σ Q) X.xe z := by
  have r' : Vals (xs ++ dvs) (us ++ ds) := r.append hd
  have n : (us ++ ds).length = ps.length := r'.length.symm.trans (F.size _ _ _ _ h)
  apply wpAny_call
  apply codeAny_mono (F.goes X.A hG X.stack z G ⟨us, []⟩ (us ++ ds) (xs ++ dvs) Q E hr I.env0 (hb z us I.kIn n) r' h)
  intro o z' q
  match o, q with
  | .error e, q => exact hx pins σ G z e z' I q
  | .ok (.ret u), q => exact I.after q
/-- f(e, ..), f of such a promise -/
theorem pe_callG (hG : X.A.guards = some []) (F : FnG X.prog X.w X.K X.mg X.base CX k f fd ps sp) (hr : Room k X.A) (hg : Gl X x) (hm : X.mg x = some (.ref f)) (hk : PySem.W.keepIn X.K (.ref f) = true) (hb : Binds X.K fd ps ds)
    (hd : Vals dvs ds) (hx : Passes CX X E) (ha : PA X (e :: es) t) (hdb : (x == ("__debug__" : Str)) = false := by decide)
    (he : starEach (e :: es) X.env = (false, eval e X.env) :: starEach es X.env := by rfl) (hpl : (backTo pos (starEach es X.env)).any (·.1) = false := by rfl) :
    PE X (.Call (.Name x p) (e :: es) [] pos) (tCall sp dvs E t) := by
  constructor
  intro pins z σ G Q I h
  apply wpAny_Call_Name_kw (ld_glob I hg hm ?_ hdb)
  apply PySem.W.callWith_K (h₀ := X.base) I.ok.mod.kin hk ?_ he hpl
  exact thn (ha.run pos pins z σ G _ I h) fun us z1 ⟨xs, G1, I1, r, q⟩ => ⟨I1.kIn, goG hG F hr hb hd hx I1 r q⟩
end
section
variable {P : Program} {w : World} {K : PySem.W.Frag} {mg : Str → Option Value} {base : Heap}
/-- a def by its body: as Fun.okX, the body may use that no repr is under way -/
theorem okG {x qual : Str} {st : Stmt} {f : Addr} {fd : FuncData} {N ps : List Str} {k : Nat} {sp : Sp} (F : Fun K x qual st f fd) (S : FnScope N ps (defScope st)) (size : ∀ xs G Q E, sp xs G Q E → xs.length = ps.length)
    (body : ∀ (cdv : Value) (A : Around) (l : List Env) (z : Shared) (G : Hp) (xs : List V) (Q : VK) (E : XK), A.guards = some [] → Room k (A.deeper (envOfC qual (defScope st) z.heap.objs.size f cdv)) → sp xs G Q E →
      ∃ t, PSs (cxOf (L2.CX P w) P w K mg base N qual (defScope st) f cdv A l z G E) (defBody st) t ∧ t { nx := fun _ G' => Q .non G', rt := Q } (start N xs) G) :
    FnG P w K mg base (L2.CX P w) (k + 1) f fd ps sp := by
  obtain ⟨oc, od, kV, doc, pm, an, cdv, ct, osl, rfl, lk, hcd⟩ := F.ex
  constructor
  · exact size
  intro A hG l z G ar us xs Q E hr e0 hb r hsp
  have hl := size _ _ _ _ hsp
  have inK : K.In z.heap := e0.mod.kin.keeps fun b o e => (e0.bs b o e).1
  have lim : z.heap.NoLimit := e0.mod.nolimit.keeps fun b o e => (e0.bs b o e).1
  have kinds : ∀ y ∈ ps.zip us, (defScope st).names.lookup y.1 = some .local ∨ ((defScope st).names.lookup y.1 = some .cell ∧ ((cellsFrom (z.heap.objs.size + 1) (defScope st).names []).lookup y.1).isSome = true) := by
    intro ⟨n, v⟩ hy
    cases S.par n (List.of_mem_zip hy).1 with
    | inl q => exact Or.inl q
    | inr q => exact Or.inr ⟨q, PySem.W.cellsFrom_some _ _ _ (Or.inl q)⟩
  apply codeAny_call_function hr.depth (inK _ _ lk) rfl S.co S.gen rfl (PySem.W.codeRec_of inK hcd) (hb _ _ _ _ ?_)
  apply wpAny_newFunctionEnv_cells S.kind kinds
  intro env he z1 y
  subst he
  refine ⟨lim.keeps y.toInCall.keep, codeAny_func ?_⟩
  obtain ⟨t, ht, hq⟩ := body cdv A l z G xs Q E hG (hr.deeper _) hsp
  have I0 := inv_start (CX := L2.CX P w) (N := N) (qual := qual) (scope := defScope st) (f := f) (cd := cdv) (E := E) S hr.hd e0 hl r y
  apply wpAny_mono (ht.run [] z1 (start N xs) G _ I0 hq) ?_ (fun e z' hz => hz)
  intro fl z' hz
  match fl, hz with
  | .ret u, ⟨v, σ', G', J, rv, q⟩ => exact ⟨v, G', J.os, J.bare, J.base, J.hok, rv, q⟩
  | .next, ⟨σ', G', J, q⟩ => exact ⟨V.non, G', J.os, J.bare, J.base, J.hok, rfl, q⟩
  | .brk, ⟨_, _, _, q⟩ => exact q.elim
  | .cont, ⟨_, _, _, q⟩ => exact q.elim
end
/-! ### heaps: lists may be filled, all else stays -/
/-- all that is tracked stays, but for what lists hold -/
def Ex (G G' : Hp) : Prop := ∀ b o, G b = some o → G' b = some o ∨ ((∃ l, o = .lst l) ∧ ∃ l', G' b = some (.lst l'))
theorem Ex.refl (G : Hp) : Ex G G := fun _ _ h => .inl h
theorem Ex.trans {G G1 G2 : Hp} (a : Ex G G1) (b : Ex G1 G2) : Ex G G2 := by
  intro c o h
  rcases a c o h with h1 | ⟨⟨l, e⟩, l1, h1⟩
  · exact b c o h1
  · rcases b c _ h1 with h2 | ⟨_, l2, h2⟩
    · exact .inr ⟨⟨l, e⟩, _, h2⟩
    · exact .inr ⟨⟨l, e⟩, _, h2⟩
theorem Ex.same {G G' : Hp} (h : Same G G') : Ex G G' := fun b o q => .inl (h b o q)
theorem Same.new {G : Hp} {p : Addr} {o : HO} (h : G p = none) : Same G (upd G p o) := fun b x e => by
  rw [upd_ne (ne_of_none e h)]
  exact e
/-- all but a stays -/
def Off (a : Addr) (G G' : Hp) : Prop := ∀ b o, b ≠ a → G b = some o → G' b = some o
theorem Off.refl (a : Addr) (G : Hp) : Off a G G := fun _ _ _ h => h
theorem Off.trans {a : Addr} {G G1 G2 : Hp} (x : Off a G G1) (y : Off a G1 G2) : Off a G G2 := fun b o n h => y b o n (x b o n h)
theorem Off.put {a : Addr} {G : Hp} {o : HO} : Off a G (upd G a o) := fun b x n e => by
  rw [upd_ne n]
  exact e
theorem Off.same {a : Addr} {G G' : Hp} (h : Same G G') : Off a G G' := fun b o _ q => h b o q
theorem Off.ex {a : Addr} {G G' : Hp} {l l' : List V} (h : Off a G G') (h1 : G a = some (.lst l)) (h2 : G' a = some (.lst l')) : Ex G G' := by
  intro b o q
  by_cases e : b = a
  · subst e
    rw [h1] at q
    cases q
    exact .inr ⟨⟨l, rfl⟩, l', h2⟩
  · exact .inl (h b o e q)
theorem Ex.tup {K : PySem.W.Frag} {G G' : Hp} {a : Addr} {xs : List V} (e : Ex G G') (h : SqT K G a xs) : SqT K G' a xs := by
  rcases h with (h | ⟨o, h⟩) | h
  · rcases e _ _ h with q | ⟨⟨_, z⟩, _⟩
    · exact .inl (.inl q)
    · cases z
  · rcases e _ _ h with q | ⟨⟨_, z⟩, _⟩
    · exact .inl (.inr ⟨o, q⟩)
    · cases z
  · exact .inr h
theorem Ex.ty {K : PySem.W.Frag} {G G' : Hp} {v : V} {t : Value} (e : Ex G G') (h : TyX K G v t) : TyX K G' v t := by
  cases h with
  | base b =>
    cases b with
    | non => exact .base .non
    | bl x => exact .base (.bl x)
    | int i => exact .base (.int i)
    | str x => exact .base (.str x)
    | flt x => exact .base (.flt x)
    | lst q =>
      rcases e _ _ q with q | ⟨_, l, q⟩
      · exact .base (.lst q)
      · exact .base (.lst q)
    | frz q =>
      rcases e _ _ q with q | ⟨⟨_, z⟩, _⟩
      · exact .base (.frz q)
      · cases z
    | tup q =>
      rcases e _ _ q with q | ⟨⟨_, z⟩, _⟩
      · exact .base (.tup q)
      · cases z
    | dK q =>
      rcases e _ _ q with q | ⟨⟨_, z⟩, _⟩
      · exact .base (.dK q)
      · cases z
    | dT q =>
      rcases e _ _ q with q | ⟨⟨_, z⟩, _⟩
      · exact .base (.dT q)
      · cases z
    | ins q cl ha hn htk hm =>
      rcases e _ _ q with q | ⟨⟨_, z⟩, _⟩
      · exact .base (.ins q cl ha hn htk hm)
      · cases z
  | byt b => exact .byt b
  | set q =>
    rcases e _ _ q with q | ⟨⟨_, z⟩, _⟩
    · exact .set q
    · cases z
  | kList a b => exact .kList a b
  | kTuple a b => exact .kTuple a b
  | kDict a b => exact .kDict a b
  | fTuple q =>
    rcases e _ _ q with q | ⟨⟨_, z⟩, _⟩
    · exact .fTuple q
    · cases z
  | fDict q =>
    rcases e _ _ q with q | ⟨⟨_, z⟩, _⟩
    · exact .fDict q
    · cases z
/-! ### values of any kind: what lists and dicts hold is left out -/
inductive D where
  | non
  | bl (b : Bool)
  | int (i : Int)
  | str (x : Str)
  | tup (ds : List D)
  | lst
  | dct
def D.ty : D → String
  | .non => "NoneType"
  | .bl _ => "bool"
  | .int _ => "int"
  | .str _ => "str"
  | .tup _ => "tuple"
  | .lst => "list"
  | .dct => "dict"
mutual
inductive Rdd (K : PySem.W.Frag) (H : Hp) : V → D → Prop
  | non : Rdd K H .non .non
  | bl (b : Bool) : Rdd K H (.bl b) (.bl b)
  | int (i : Int) : Rdd K H (.int i) (.int i)
  | str (x : Str) : Rdd K H (.str x) (.str x)
  | tup {a : Addr} {xs : List V} {ds : List D} : SqT K H a xs → RddAll K H xs ds → ds.length ≤ 100000 → Rdd K H (.ref a) (.tup ds)
  | lst {v : V} : TyX K H v (.type "list") → Rdd K H v .lst
  | dct {v : V} : TyX K H v (.type "dict") → Rdd K H v .dct
inductive RddAll (K : PySem.W.Frag) (H : Hp) : List V → List D → Prop
  | nil : RddAll K H [] []
  | cons {v : V} {vs : List V} {d : D} {ds : List D} : Rdd K H v d → RddAll K H vs ds → RddAll K H (v :: vs) (d :: ds)
end
section
variable {K : PySem.W.Frag} {H H' : Hp}
theorem sqT_ty {a : Addr} {xs : List V} (h : SqT K H a xs) : TyX K H (.ref a) (.type "tuple") := by
  rcases h with (h | ⟨o, h⟩) | ⟨o, its, n, hk, hc, _⟩
  · exact .base (.tup h)
  · exact .fTuple h
  · exact .kTuple hk hc
theorem Rdd.ty {v : V} {d : D} (h : Rdd K H v d) : TyX K H v (.type d.ty) := by
  cases h with
  | non => exact .base .non
  | bl b => exact .base (.bl b)
  | int i => exact .base (.int i)
  | str x => exact .base (.str x)
  | tup hs _ _ => exact sqT_ty hs
  | lst h => exact h
  | dct h => exact h
mutual
theorem Rdd.ex (e : Ex H H') : ∀ (d : D) {v : V}, Rdd K H v d → Rdd K H' v d
  | .non, _, h => by cases h; exact .non
  | .bl b, _, h => by cases h; exact .bl b
  | .int i, _, h => by cases h; exact .int i
  | .str x, _, h => by cases h; exact .str x
  | .tup ds, _, h => by
    cases h with
    | tup hs ha z => exact .tup (e.tup hs) (RddAll.ex e ds ha) z
  | .lst, _, h => by
    cases h with
    | lst q => exact .lst (e.ty q)
  | .dct, _, h => by
    cases h with
    | dct q => exact .dct (e.ty q)
theorem RddAll.ex (e : Ex H H') : ∀ (ds : List D) {vs : List V}, RddAll K H vs ds → RddAll K H' vs ds
  | [], _, h => by cases h; exact .nil
  | d :: ds, _, h => by
    cases h with
    | cons h1 h2 => exact .cons (Rdd.ex e d h1) (RddAll.ex e ds h2)
end
theorem RddAll.length : ∀ {vs : List V} {ds : List D}, RddAll K H vs ds → vs.length = ds.length
  | _, _, .nil => rfl
  | _, _, .cons _ h => by rw [List.length_cons, List.length_cons, h.length]
theorem RddAll.get : ∀ {vs : List V} {ds : List D} {i : Nat} {v : V}, RddAll K H vs ds → vs[i]? = some v → ∃ d, ds[i]? = some d ∧ Rdd K H v d
  | _, _, i, v, .nil, h => by simp at h
  | _, _, 0, v, .cons h1 h2, h => by
    have e := Option.some.inj h
    subst e
    exact ⟨_, rfl, h1⟩
  | _, _, i + 1, v, .cons h1 h2, h => RddAll.get (i := i) h2 (by rw [List.getElem?_cons_succ] at h; exact h)
/-- isinstance(v, t), t a built-in class -/
def isT (a b : String) : Bool := (kitB a b).getD false
def isA (t : String) (d : D) : Bool := isT d.ty t
theorem kit_isA {d : D} {t : String} (h : ∀ s ∈ ["NoneType", "bool", "int", "str", "tuple", "list", "dict"], (kitB s t).isSome = true) : PySem.W.kitOne K (.type d.ty) (.type t) = some (isA t d) := by
  have q : (kitB d.ty t).isSome = true := by
    apply h
    cases d <;> simp [D.ty]
  apply kit_ty
  unfold isA isT
  cases e : kitB d.ty t with
  | none => rw [e] at q; cases q
  | some b => rfl
theorem isA_int (d : D) : isA "int" d = match d with | .bl _ => true | .int _ => true | _ => false := by
  cases d
  · exact (by decide +kernel : isT "NoneType" "int" = false)
  · exact (by decide +kernel : isT "bool" "int" = true)
  · exact (by decide +kernel : isT "int" "int" = true)
  · exact (by decide +kernel : isT "str" "int" = false)
  · exact (by decide +kernel : isT "tuple" "int" = false)
  · exact (by decide +kernel : isT "list" "int" = false)
  · exact (by decide +kernel : isT "dict" "int" = false)
theorem isA_bool (d : D) : isA "bool" d = match d with | .bl _ => true | _ => false := by
  cases d
  · exact (by decide +kernel : isT "NoneType" "bool" = false)
  · exact (by decide +kernel : isT "bool" "bool" = true)
  · exact (by decide +kernel : isT "int" "bool" = false)
  · exact (by decide +kernel : isT "str" "bool" = false)
  · exact (by decide +kernel : isT "tuple" "bool" = false)
  · exact (by decide +kernel : isT "list" "bool" = false)
  · exact (by decide +kernel : isT "dict" "bool" = false)
theorem isA_tuple (d : D) : isA "tuple" d = match d with | .tup _ => true | _ => false := by
  cases d
  · exact (by decide +kernel : isT "NoneType" "tuple" = false)
  · exact (by decide +kernel : isT "bool" "tuple" = false)
  · exact (by decide +kernel : isT "int" "tuple" = false)
  · exact (by decide +kernel : isT "str" "tuple" = false)
  · exact (by decide +kernel : isT "tuple" "tuple" = true)
  · exact (by decide +kernel : isT "list" "tuple" = false)
  · exact (by decide +kernel : isT "dict" "tuple" = false)
end
/-! ### comprehensions whose turns change nothing that stood: item i gives the i-th of ys (none: it is left out) -/
theorem same_off {D : Addr} {H H' : Hp} (h : Off D H H') (n : H D = none) : Same H H' := fun b o e => h b o (ne_of_none e n) e
theorem lcT {K : PySem.W.Frag} {a : Addr} {xs : List V} {g : TG} {tt : TT} {te : TE} {vs : List Nat} {σ : L2.St} {H1 : Hp} {D : Addr} {Qd : Hp → Prop} (ys : List (Option V)) (hlen : ys.length = xs.length) (hz : xs.length ≤ 100000) (hT : SqT K H1 a xs) (hD : H1 D = none)
    (hs : ∀ (i : Nat) (x : V) (H : Hp) (Q : VK) (Z : Hp → Prop), xs[i]? = some x → Same H1 H → (∀ y H', ys[i]? = some (some y) → Same H H' → Q y H') → (∀ H', ys[i]? = some none → Same H H' → Z H') →
      g x (wipe σ vs) H fun σ2 H2 => wipe σ2 vs = wipe σ vs ∧ tt σ2 H2 fun b H3 => if b = true then te σ2 H3 Q else Z H3)
    (hd : ∀ H, Same H1 H → H D = some (.lst (ys.filterMap id)) → Qd H) :
    ∃ W : Nat → Nat → Hp → Prop, (∃ m, W 0 m (upd H1 D (.lst []))) ∧ ∀ i m H, W i m H →
      ((Itt K a).stop i H ∧ Qd H) ∨ ((Itt K a).go i H ∧ ∃ Nx : Hp → Prop, (∀ H', Nx H' → ∃ m', m' < m ∧ W (i + 1) m' H') ∧ ∀ x H', (Itt K a).yld i H x H' → g x (wipe σ vs) H' fun σ2 H2 => wipe σ2 vs = wipe σ vs ∧ tt σ2 H2 fun b H3 =>
        if b = true then te σ2 H3 fun y H4 => ∃ acc, H4 D = some (.lst acc) ∧ acc.length < sizeLine ∧ Nx (upd H4 D (.lst (acc ++ [y]))) else Nx H3) := by
  have acc_len : ∀ i, ((ys.take i).filterMap id).length < sizeLine := fun i => by
    have h1 := List.length_filterMap_le id (ys.take i)
    have h2 : (ys.take i).length ≤ ys.length := by rw [List.length_take]; omega
    have h3 : sizeLine = 16777216 := sizeLine_eq
    omega
  refine lc_tup (fun i H => Off D H1 H ∧ H D = some (.lst ((ys.take i).filterMap id))) ⟨.put, upd_same⟩ (fun i H _ ⟨h, _⟩ => (Ex.same (same_off h hD)).tup hT) (fun i x H hx ⟨ho, hl⟩ => ?_) (fun H ⟨ho, hl⟩ => ?_)
  · have hi : i < xs.length := (List.getElem?_eq_some_iff.mp hx).1
    refine hs i x H _ _ hx (same_off ho hD) (fun y H' hy sm => ⟨_, sm _ _ hl, acc_len i, ?_, ?_⟩) (fun H' hy sm => ⟨?_, ?_⟩)
    · exact (ho.trans (.same sm)).trans .put
    · rw [upd_same, List.take_add_one, hy, List.filterMap_append]
      rfl
    · exact ho.trans (.same sm)
    · rw [sm _ _ hl, List.take_add_one, hy, List.filterMap_append]
      simp
  · refine hd H (same_off ho hD) ?_
    rw [hl, ← hlen, List.take_length]
end Sl

set_option Elab.async false
set_option linter.all false
set_option maxRecDepth 100000
set_option maxHeartbeats 1000000
namespace Sl
open PySem PySem.Spec PyProof.Rows L2
/-! ### more rules: a list takes a tuple's items; tuples repeated any number of times -/
theorem extT (l : Addr) (xs : Array Value) (n : Nat) (b : Addr) (ys : Array Value) (m : Nat) (dd : Option Addr) (sl : Array (Option Value)) (a0 : ¬(!xs.isEmpty && Builtin.List.listTooLong (xs.size + ys.size)) = true) (a1 : xs.size ≤ sizeLine)
    (a2 : (xs ++ ys).size ≤ sizeLine + 1) :
    Meets (Builtin.«list.extend» ⟨[.ref l, .ref b], []⟩) (fun _ R z => z.heap.get? l = some { cls := .type "list", dict := none, data := .seq xs n, slots := #[] } ∧
      z.heap.get? b = some { cls := .type "tuple", dict := dd, data := .seq ys m, slots := sl } ∧ R (.ok (.ret Value.none)) { z with heap := z.heap.update l (Obj.mapSeq fun x => x ++ ys), toks := z.toks }) := by
  refine .of_wp fun prog w A R z h => ?_
  obtain ⟨hp, g, d, tk, os⟩ := z
  obtain ⟨hl, hb, h⟩ := h
  have f1 := AutoSeq1.idx_int
  have f2 := AutoSeq1.sub_tuple_tuple
  have f3 := AutoSeq1.sub_list_list
  have f4 := AutoSeq1.sub_tuple_list
  have f5 := AutoSeq1.sub_list_tuple
  wp_walk using (wpAny_updateSeq hl rfl (hz := a1) (_hz' := a2)), wpAny_loadPart' hl, wpAny_loadPart' hb
  exact ⟨_, rfl, h⟩
section
variable {X : Cx}
def rExtT (K : PySem.W.Frag) : V → List V → Hp → VK → Prop := fun x vs H Q => ∃ l b xs zs, x = .ref l ∧ vs = [.ref b] ∧ H l = some (.lst xs) ∧ SqT K H b zs ∧ xs.length + zs.length ≤ sizeLine ∧ Q .non (upd H l (.lst (xs ++ zs)))
theorem mt_extendT : MtM X "list.extend" (rExtT X.K) := by
  intro pins z σ G x vs v us Q I rx rv h
  obtain ⟨l, b, xs, zs, rfl, rfl, hG, hB, hz, q⟩ := h
  cases rx
  obtain ⟨u, rfl, ru⟩ := rv.one
  cases ru
  obtain ⟨y, its, n, r, hl, e⟩ := I.lstM hG
  obtain ⟨its2, r2, ⟨⟨cls, dd, data, sl⟩, ho, hc, n2, hd⟩, hs⟩ := I.tuple hB
  simp only at hc hd
  subst hc hd
  have l2 := r2.length
  have sz : its.toArray.size + its2.toArray.size ≤ sizeLine := by
    simp only [List.size_toArray]
    omega
  have short : ¬ (!its.toArray.isEmpty && Builtin.List.listTooLong (its.toArray.size + its2.toArray.size)) = true := by
    rw [notLongL sz]
    simp
  refine call_meets F.slot_list_extend ⟨_, e, rfl⟩ F.entry_list_extend (F.args_list_extend_2 _ _) (extT l its.toArray n b its2.toArray n2 dd sl short (by simp only [List.size_toArray]; omega) (by rw [Array.size_append]; omega)) ⟨e, ho, ?_⟩
  refine ⟨.non, _, I.lset (its' := its ++ its2) hG e (by simp) (r.append r2) ?_, rfl, q⟩
  rw [List.length_append]
  exact hz
theorem mulT1 (l : Addr) (xs : Array Value) (n : Nat) (dd : Option Addr) (sl : Array (Option Value)) (u : Tok) :
    Meets (Builtin.«tuple.__mul__» ⟨[.ref l, .int 1 u], []⟩) (fun _ R z => z.heap.get? l = some { cls := .type "tuple", dict := dd, data := .seq xs n, slots := sl } ∧ R (.ok (.ret (Value.ref l))) z) := by
  refine .of_wp fun prog w A R z h => ?_
  obtain ⟨hp, g, d, tk, os⟩ := z
  obtain ⟨hl, h⟩ := h
  have f1 := AutoSeq1.idx_int
  have c1 : (xs.isEmpty || (1 : Int) == 1) = true := by simp
  wp_walk using wpAny_loadPart' hl
  exact ⟨_, rfl, h⟩
theorem mulT0 (l : Addr) (xs : Array Value) (n : Nat) (dd : Option Addr) (sl : Array (Option Value)) (u : Tok) (hne : xs.isEmpty = false) :
    Meets (Builtin.«tuple.__mul__» ⟨[.ref l, .int 0 u], []⟩) (fun _ R z => z.heap.get? l = some { cls := .type "tuple", dict := dd, data := .seq xs n, slots := sl } ∧
      R (.ok (.ret (Value.ref z.heap.objs.size))) { z with heap := z.heap.push { cls := Value.type "tuple", data := Data.seq #[] }, toks := z.toks }) := by
  refine .of_wp fun prog w A R z h => ?_
  obtain ⟨hp, g, d, tk, os⟩ := z
  obtain ⟨hl, h⟩ := h
  have f1 := AutoSeq1.idx_int
  wp_walk using wpAny_loadPart' hl
  exact ⟨_, rfl, h⟩
/-- a tuple with items, repeated 0, 1 or more times -/
def rRepA (K : PySem.W.Frag) : R2 := fun x y G Q => ∃ l k xs, x = .ref l ∧ y = .int k ∧ SqT K G l xs ∧ xs ≠ [] ∧ 0 ≤ k ∧ k ≤ 1000 ∧ xs.length ≤ 1000 ∧
  (k = 1 → Q (.ref l) G) ∧ (k ≠ 1 → ∀ p, G p = none → Q (.ref p) (upd G p (.tup (List.replicate k.toNat xs).flatten)))
theorem op_repTA : OpR X (binaryOp .Mult) (rRepA X.K) := by
  intro pins z σ G x y v u Q I rx ry h
  obtain ⟨l, k, xs, rfl, rfl, hT, hne, h0, h1, hz, q1, q2⟩ := h
  by_cases k2 : 2 ≤ k
  · exact op_repT pins z σ G _ _ _ _ Q I rx ry ⟨l, k, xs, rfl, rfl, hT, hne, k2, h1, hz, q2 (by omega)⟩
  · cases rx
    obtain ⟨t, rfl⟩ := ry
    obtain ⟨its, r, ⟨⟨cls, dd, data, sl⟩, ho, hc, n, hd⟩, hs⟩ := I.tuple hT
    simp only at hc hd
    subst hc hd
    have hn : its.toArray.isEmpty = false := by
      cases its with
      | nil =>
        have e := r.length
        exact absurd (List.eq_nil_of_length_eq_zero e) hne
      | cons a b => rfl
    rcases (by omega : k = 0 ∨ k = 1) with rfl | rfl
    · refine wpAny_binaryOp_repeat_ref (T := "tuple") (U := "int") (by decide) ⟨_, ho, rfl⟩ (fun s' => typeIs_int s' 0 t) noFill_tuple_mul F.fills_int_mul F.slot_int_rmul repeat_tuple F.slot_int_index.lookup
        (call_meets F.slot_int_rmul (typeIs_int z 0 t) F.entry_int_rmul (F.args_int_rmul_2 _ _) (int_rmul_tuple 0 t l its.toArray n dd sl)
          ⟨ho, rfl, ⟨_, ho, rfl⟩, call_meets F.slot_tuple_mul ⟨_, ho, rfl⟩ F.entry_tuple_mul (F.args_tuple_mul_2 _ _) (mulT0 l its.toArray n dd sl t hn) ⟨ho, ?_⟩⟩)
      refine ⟨.ref z.heap.objs.size, _, I.laid (t' := z.toks) (o := .tup []) (fun b ob q => Heap.get?_push_of_some _ q) (Nat.le_refl _) ?_, rfl, q2 (by omega) _ (I.hok.fresh (Nat.le_refl _))⟩
      exact ⟨Nat.zero_le _, [], .nil, IsTup.new _ _⟩
    · refine wpAny_binaryOp_repeat_ref (T := "tuple") (U := "int") (by decide) ⟨_, ho, rfl⟩ (fun s' => typeIs_int s' 1 t) noFill_tuple_mul F.fills_int_mul F.slot_int_rmul repeat_tuple F.slot_int_index.lookup
        (call_meets F.slot_int_rmul (typeIs_int z 1 t) F.entry_int_rmul (F.args_int_rmul_2 _ _) (int_rmul_tuple 1 t l its.toArray n dd sl)
          ⟨ho, rfl, ⟨_, ho, rfl⟩, call_meets F.slot_tuple_mul ⟨_, ho, rfl⟩ F.entry_tuple_mul (F.args_tuple_mul_2 _ _) (mulT1 l its.toArray n dd sl t) ⟨ho, ?_⟩⟩)
      exact ⟨.ref l, G, I, rfl, q1 rfl⟩
end
end Sl

set_option Elab.async false
set_option linter.all false
set_option maxRecDepth 100000
set_option maxHeartbeats 1000000
/-! ## The first field of an exception of one's own, whatever built-in class it comes from -/
namespace PySem
namespace ErX
open Builtin Builtin.ObjectAttr
open PySem.W PySem.Calls PyProof.Rows PySem.HandSPX
section
variable {prog : Program} {w : World} {A : Around} {R : Result → Shared → Prop} {hp : Heap} {g : Array GenState} {d : Drawn} {t : Nat} {os : OsState}
theorem osa_first {K : Frag} {f : Str} {tk : Tok} {v : Value} {x C : Addr} {fv : Array Value} {cd : ClassData} (inK : K.In hp) (ox : hp.get? x = some { cls := .ref C, data := .fields fv }) (cC : clsIn K C = some cd)
    (pas : ∀ self, refuseLoop self "__setattr__" cd.mro = pure ()) (ne : cd.mro.isEmpty = false) (ob : cd.mro.contains (.type "object") = true) (hd : cd.hasDict = true) (nf : findIn K (.ref C) f = some none)
    (q : ∀ h' tk' dx, (∀ b o, b ≠ x → hp.get? b = some o → h'.get? b = some o) → hp.objs.size ≤ dx → dx ≠ x → h'.get? x = some { cls := .ref C, dict := some dx, data := .fields fv } →
      h'.Ns1 dx (fun y => if y = f then some v else none) → R (.ok (.ret .none)) ⟨h', g, d, tk', os⟩) :
    codeAny (model prog w) A (.call (.builtin "object.__setattr__") ⟨[.ref x, .str f tk, v], []⟩) R ⟨hp, g, d, t, os⟩ := by
  have xs : x ≠ hp.objs.size := Nat.ne_of_lt (Heap.lt_size ox)
  have inst : InstAt hp x { cls := .ref C, data := .fields fv } C none := ⟨ox, rfl, rfl, trivial⟩
  have SO := F.store_object
  have is_obj : Looks (model prog w) hp (isInstance (.ref x) (.type "object")) true :=
    inst.type.andThen (looks_mroIn inK (by unfold mroIn; rw [cC, Option.bind_some, if_neg (by rw [ne]; decide), ob]))
  apply codeAny_call_builtin SO.slot.plain SO.entry
  apply @check_slot (model prog w) _ _ ⟨hp, g, d, t, os⟩ "object.__setattr__" "object" "__setattr__" (.ref x) [.str f tk, v] [] _ SO.kind SO.split is_obj (SO.args (.ref x) (.str f tk) v)
  have its_mro : Looks (model prog w) hp (mroOf (.ref C)) cd.mro := (looks_clsIn inK cC).andThen .now
  have its_cls : Looks (model prog w) hp (classData C) cd := looks_clsIn inK cC
  have nobody : Looks (model prog w) hp (storeTaker? none) none := .now
  rw [osa_eq, refuse_eq]
  refine wpAny_bind (wpAny_bind (inst.type.at (wpAny_bind (its_mro.at ?one))))
  case' one => skip
  rw [pas]
  refine wpAny_pure (wpAny_bind (inst.type.at (wpAny_bind ((looks_findIn inK nf).at (wpAny_bind (nobody.at ?_))))))
  show wpAny _ _ (storeInOwnDict (.ref x) (.ref C) (.str f tk) f v false) _ _ _
  obtain ⟨c1, c2, c3, c4, c5, c6, c7, c8, c9, c10, c11⟩ := cd
  dsimp only at hd
  subst hd
  unfold storeInOwnDict ownDictForStores
  repeat (first | with_reducible refine store_in_new ?_ ?_ | with_reducible refine wpAny_loadPart_at ox ?_ | with_reducible refine its_cls.at ?_ | wp_step)
  · exact ⟨_, #[], _, (Heap.get?_update_ne _ _ _ _ xs.symm).trans (Heap.get?_push_at rfl rfl), rfl, fun e he => absurd he (by simp), fun _ => rfl⟩
  · intro h' tk' ns sb
    have ox1 : (hp.push { cls := .type "dict", data := .dict #[] }).get? x = some { cls := .ref C, data := .fields fv } := Heap.get?_push_of_some _ ox
    apply q h' tk' hp.objs.size _ (Nat.le_refl _) xs.symm _ ns
    · intro b o nb e
      rw [sb.2 b (Nat.ne_of_lt (Heap.lt_size e)), Heap.get?_update_ne _ _ _ _ nb]
      exact Heap.get?_push_of_some _ e
    · rw [sb.2 x xs]
      exact Heap.get?_update_self _ ox1 rfl
end
end ErX
end PySem

set_option Elab.async false
set_option linter.all false
set_option maxRecDepth 100000
set_option maxHeartbeats 1000000
/-! ## Comparisons with empty sequences, repr of data, a law's head -/
namespace Sl
open PySem PySem.Spec PyProof.Rows L2
/-! ### t == (), l == [] : only whether anything is in it -/
theorem eqT0 (l : Addr) (xs : Array Value) (n : Nat) (b : Addr) (m : Nat) (dd d2 : Option Addr) (sl s2 : Array (Option Value)) :
    Meets (Builtin.«tuple.__eq__» ⟨[.ref l, .ref b], []⟩) (fun _ R z => z.heap.get? l = some { cls := .type "tuple", dict := dd, data := .seq xs n, slots := sl } ∧ z.heap.get? b = some { cls := .type "tuple", dict := d2, data := .seq #[] m, slots := s2 } ∧
      R (.ok (.ret (.bool (decide (xs.size = 0))))) z) := by
  refine .of_wp fun prog w A R z h => ?_
  obtain ⟨hp, g, d, tk, os⟩ := z
  obtain ⟨hl, hb, h⟩ := h
  have f2 := AutoSeq1.sub_tuple_tuple
  obtain ⟨ys⟩ := xs
  cases ys with
  | nil =>
    wp_walk using wpAny_loadPart' hl, wpAny_loadPart' hb
    exact ⟨_, rfl, h⟩
  | cons y ys =>
    wp_walk using wpAny_loadPart' hl, wpAny_loadPart' hb
    refine ⟨_, rfl, ?_⟩
    have e1 : decide ((⟨y :: ys⟩ : Array Value).size = 0) = false := decide_eq_false (by simp)
    rw [e1] at h
    have e2 : Builtin.Tuple.tupleCompareSizes CmpOp.Eq (⟨y :: ys⟩ : Array Value).size (#[] : Array Value).size = .bool false := by
      unfold Builtin.Tuple.tupleCompareSizes
      simp
    rw [e2]
    exact h
theorem eqL0 (l : Addr) (xs : Array Value) (n : Nat) (b : Addr) (m : Nat) (dd d2 : Option Addr) (sl s2 : Array (Option Value)) (hne : (xs.size != 0) = true) :
    Meets (Builtin.«list.__eq__» ⟨[.ref l, .ref b], []⟩) (fun _ R z => z.heap.get? l = some { cls := .type "list", dict := dd, data := .seq xs n, slots := sl } ∧ z.heap.get? b = some { cls := .type "list", dict := d2, data := .seq #[] m, slots := s2 } ∧
      R (.ok (.ret (.bool false))) z) := by
  refine .of_wp fun prog w A R z h => ?_
  obtain ⟨hp, g, d, tk, os⟩ := z
  obtain ⟨hl, hb, h⟩ := h
  have f2 := AutoSeq1.sub_list_list
  have e0 : (xs.size != (#[] : Array Value).size) = true := hne
  wp_walk using wpAny_loadPart' hl, wpAny_loadPart' hb
  exact ⟨_, rfl, h⟩
section
variable {X : Cx}
/-- t == () -/
def rEqT0 (K : PySem.W.Frag) : R2 := fun x y G Q => ∃ a b xs, x = .ref a ∧ y = .ref b ∧ SqT K G a xs ∧ SqT K G b [] ∧ Q (.bl xs.isEmpty) G
theorem op_eqT0 (hu : X.A.units < cLine) : OpR X (compareOp .Eq) (rEqT0 X.K) := by
  intro pins z σ G x y v u Q I rx ry h
  obtain ⟨a, b, xs, rfl, rfl, ha, hb, q⟩ := h
  cases rx
  cases ry
  obtain ⟨its, r, ⟨⟨c1, dd, data, sl⟩, ho, hc, n, hd⟩, _⟩ := I.tuple ha
  obtain ⟨its2, r2, ⟨⟨c2, d2, data2, s2⟩, ho2, hc2, n2, hd2⟩, _⟩ := I.tuple hb
  simp only at hc hd hc2 hd2
  subst hc hd hc2 hd2
  cases r2
  have e : decide (its.toArray.size = 0) = xs.isEmpty := by
    rw [List.size_toArray, ← r.length]
    cases xs <;> rfl
  have m := eqT0 a its.toArray n b n2 dd d2 sl s2
  rw [e] at m
  exact wpAny_richCompare_same_room (op := .Eq) ⟨_, ho, rfl⟩ ⟨_, ho2, rfl⟩ F.slot_tuple_eq (call_meets F.slot_tuple_eq ⟨_, ho, rfl⟩ F.entry_tuple_eq (F.args_tuple_eq_2 _ _) m
    ⟨ho, ho2, (fun q => nomatch q), .bl _, G, I, rfl, q⟩) hu
/-- l == [] -/
def rEqL0 (K : PySem.W.Frag) : R2 := fun x y G Q => ∃ a b xs, x = .ref a ∧ y = .ref b ∧ SqL K G a xs ∧ SqL K G b [] ∧ Q (.bl xs.isEmpty) G
theorem op_eqL0 (hu : X.A.units + 64 < cLine) : OpR X (compareOp .Eq) (rEqL0 X.K) := by
  intro pins z σ G x y v u Q I rx ry h
  obtain ⟨a, b, xs, rfl, rfl, ha, hb, q⟩ := h
  cases xs with
  | nil => exact op_eqD hu pins z σ G _ _ _ _ Q I rx ry ⟨.list [], .list [], .lst ha .nil, .lst hb .nil, rfl, rfl, q⟩
  | cons x0 xs =>
    cases rx
    cases ry
    obtain ⟨its, r, p1, _⟩ := I.list ha
    obtain ⟨its2, r2, p2, _⟩ := I.list hb
    obtain ⟨⟨c1, dd, data, sl⟩, ho, hc, n, hd⟩ := p1.isList
    obtain ⟨⟨c2, d2, data2, s2⟩, ho2, hc2, n2, hd2⟩ := p2.isList
    simp only at hc hd hc2 hd2
    subst hc hd hc2 hd2
    cases r2
    have hne : (its.toArray.size != 0) = true := by
      rw [List.size_toArray, ← r.length]
      rfl
    exact wpAny_richCompare_same_room (op := .Eq) ⟨_, ho, rfl⟩ ⟨_, ho2, rfl⟩ F.slot_list_eq (call_meets F.slot_list_eq ⟨_, ho, rfl⟩ F.entry_list_eq (F.args_list_eq_2 _ _) (eqL0 a its.toArray n b n2 dd d2 sl s2 hne)
      ⟨ho, ho2, (fun q => nomatch q), .bl _, G, I, rfl, q⟩) (by omega)
/-! ### repr of data -/
/-- repr(v), v data of a bounded depth whose text is not too long -/
def rRepr (K : PySem.W.Frag) : List V → Hp → VK → Prop := fun xs H Q => ∃ v d, xs = [v] ∧ Dp K H v d ∧ d.showable = true ∧ d.depth ≤ 40 ∧ d.shown.length ≤ sizeLine ∧ Q (.str d.shown) H
theorem noDict {K : PySem.W.Frag} {H : Hp} : ∀ (d : PyData) (v : V), Dp K H v d → d.hasDict = false
  | .none, _, _ => by simp only [PyData.hasDict]
  | .bool _, _, _ => by simp only [PyData.hasDict]
  | .int _, _, _ => by simp only [PyData.hasDict]
  | .str _, _, _ => by simp only [PyData.hasDict]
  | .list ds, _, h => by
    cases h with
    | lst _ ha =>
      simp only [PyData.hasDict]
      exact go ds _ ha
  | .tuple ds, _, h => by
    cases h with
    | tup _ ha =>
      simp only [PyData.hasDict]
      exact go ds _ ha
  | .dict _, _, h => by cases h
where
  go : ∀ (ds : List PyData) (vs : List V), DpAll K H vs ds → PyData.hasDictAll ds = false
  | [], _, _ => by simp only [PyData.hasDictAll]
  | d :: ds, _, h => by
    cases h with
    | cons h1 h2 =>
      simp only [PyData.hasDictAll]
      rw [noDict d _ h1, go ds _ h2]
      rfl
theorem call_repr {k : Nat} (hG : X.A.guards = some []) (hr : Room k X.A) : CallR X (.builtin "repr") (rRepr X.K) := by
  intro pins z σ H xs us Q I r h
  obtain ⟨v, d, rfl, hd, hs, hdp, hz, q⟩ := h
  obtain ⟨u, rfl, ru⟩ := vals1 r
  have hu := hr.units
  cases hd with
  | non =>
    cases ru
    exact PySem.P.repr_of_none ⟨.str _, H, I.tok _, ⟨_, rfl⟩, q⟩
  | bl b =>
    cases ru
    exact PySem.P.repr_of_bool ⟨.str _, H, I.tok _, ⟨_, rfl⟩, by simpa only [PyData.shown] using q⟩
  | int i =>
    obtain ⟨t, rfl⟩ := ru
    exact PySem.P.repr_of_int (of_decide_eq_true (by simpa only [PyData.showable] using hs)) ⟨.str _, H, I.tok _, ⟨_, rfl⟩, by simpa only [PyData.shown] using q⟩
  | str x =>
    obtain ⟨t, rfl⟩ := ru
    simp only [PyData.shown] at q hz
    exact PySem.P.repr_of_str ⟨.str _, H, I.tok _, ⟨_, rfl⟩, q⟩ hz
  | @lst a ys ds h1 h2 =>
    cases ru
    obtain ⟨as, rd⟩ := Dp.reads I (.list ds) (.ref a) (.ref a) (.lst h1 h2) rfl
    refine repr_of_reads' rd hs (PyData.noDict_hsm (noDict (.list ds) (.ref a) (.lst h1 h2))) hG (by omega) (fun _ _ e => e) (fun h' u tk hk => ?_) hz
    exact ⟨.str _, H, I.kept hk, ⟨u, rfl⟩, q⟩
  | @tup a ys ds h1 h2 =>
    cases ru
    obtain ⟨as, rd⟩ := Dp.reads I (.tuple ds) (.ref a) (.ref a) (.tup h1 h2) rfl
    refine repr_of_reads' rd hs (PyData.noDict_hsm (noDict (.tuple ds) (.ref a) (.tup h1 h2))) hG (by omega) (fun _ _ e => e) (fun h' u tk hk => ?_) hz
    exact ⟨.str _, H, I.kept hk, ⟨u, rfl⟩, q⟩
end
end Sl

set_option Elab.async false
set_option linter.all false
set_option maxRecDepth 100000
set_option maxHeartbeats 1000000
/-! ## A law's head, from a promise that is kept where no repr is under way -/
namespace Sl
open PySem PySem.Spec PyProof.Rows L2
theorem law_callG {P : Program} {w : World} {K : PySem.W.Frag} {mg mb : Str → Option Value} {k : Nat} {fa a : Addr} {fd : FuncData} {x : Str} {sp : Sp} {z : Shared} {vs : List Value} {ns : List Int}
    (inK : K.In z.heap) (gl : z.heap.Ns mainGlobals mg) (bl : z.heap.Ns builtinsNs mb) (bb : ∀ x : Str, x ≠ "__name__" → mb x = bootBuiltins x) (lim : z.heap.NoLimit) (gs : z.gens = #[])
    (oa : z.heap.get? a = some { cls := .type "list", data := .seq vs.toArray }) (hi : IntsAre vs ns) (hl : ns.length ≤ sizeLine) (hr : Room k callerA)
    (F : ∀ base : Heap, K.In base → base.Ns mainGlobals mg → FnG P w K mg base (L2.CX P w) k fa fd [x] sp) (bind : ∀ (s : Shared) (u : Value), BindsTo s fd ⟨[u], []⟩ [(x, u)])
    (hsp : ∀ G : Hp, Only G → SqL K G a (ns.map V.int) → sp [.ref a] G (fun v _ => v = .bl true) fun _ _ _ => False) :
    codeAny (model P w) callerA (.call (.ref fa) ⟨[.ref a], []⟩) (fun r s' => r = .ok (.ret (.bool true)) ∧ OldK z.heap s'.heap ∧ s'.os = z.os ∧ AllBare s'.gens) z := by
  have items := vals_ints hi
  have count := hi.length
  have main : ∀ G : Hp, Only G → SqL K G a (ns.map V.int) → HOk P w G z.heap → (∀ b, G b ≠ none → b = a) → (G a ≠ none → K.lookup a = none) →
      codeAny (model P w) callerA (.call (.ref fa) ⟨[.ref a], []⟩) (fun r s' => r = .ok (.ret (.bool true)) ∧ OldK z.heap s'.heap ∧ s'.os = z.os ∧ AllBare s'.gens) z := by
    intro G only sq ok one notK
    have plain_of : ∀ {b : Addr} {o : Obj} {es : Array DictEntry} {ep : Nat}, z.heap.get? b = some o → o.data = .dict es ep → G b = none := by
      intro b o es ep e dt
      cases q : G b with
      | none => rfl
      | some u =>
        have e1 : b = a := one b (by simp [q])
        rw [e1, oa] at e
        cases e
        exact absurd (show Data.seq vs.toArray _ = Data.dict es ep from dt) (fun y => nomatch y)
    have ns_of : ∀ {b : Addr} {m : Str → Option Value}, z.heap.Ns b m → (hidT z.heap G).Ns b m := by
      intro b m h
      obtain ⟨o, es, ep, e, dt, r⟩ := h
      exact ⟨o, es, ep, hidT_get e (plain_of e dt), dt, r⟩
    have inB : K.In (hidT z.heap G) := by
      intro b o e
      apply hidT_get (inK b o e)
      cases q : G b with
      | none => rfl
      | some u =>
        have e1 : b = a := one b (by simp [q])
        subst e1
        rw [notK (by simp [q])] at e
        cases e
    have noLim : (hidT z.heap G).NoLimit := by
      obtain ⟨mc, h1, h2⟩ := lim
      exact ⟨mc, ns_of h1, h2⟩
    have md : Mod K mg (hidT z.heap G) := { kin := inB, glob := ns_of gl, blt := ⟨mb, ns_of bl, bb⟩, nolimit := noLim }
    have e0 : Env0 P w K mg (hidT z.heap G) callerA [] z G :=
      { frames := rfl, mod := md, bs := fun b o e => of_hidT e, bsz := Nat.le_of_eq (hidT_size _ _), funs := trivial, frf := fun b hb => absurd (show b ∈ ([] : List Addr) from hb) (by simp), hok := ok, bare := .of_eq gs }
    apply codeAny_mono ((F _ inB (ns_of gl)).goes callerA rfl [] z G ⟨[.ref a], []⟩ [.ref a] [.ref a] _ _ hr e0 (bind z (.ref a)) (.cons rfl .nil) (hsp G only sq))
    intro r s' h
    match r, h with
    | .error e, h =>
      obtain ⟨_, _, _, _, _, _, _, _, _, _, _, _, y⟩ := h
      exact y.elim
    | .ok (.ret u), ⟨v, G', os, bare, un, ok', r', q⟩ =>
      have q1 : v = .bl true := q
      subst q1
      obtain rfl : u = Value.bool true := r'
      refine ⟨rfl, OldK.of_keep ?_, os, bare⟩
      intro b o e
      cases y : G b with
      | none => exact un.keep b o e y (by intro q; exact absurd (show b ∈ ([] : List Addr) from q) (by simp)) (by simp)
      | some u =>
        rcases only b with y2 | ⟨ob, xs, y2⟩
        · rw [y] at y2
          cases y2
        · obtain ⟨e1, _⟩ := ok b _ y2
          obtain ⟨e2, _⟩ := ok' b _ (un.frzs b ob _ y2)
          rw [e] at e1
          cases e1
          exact e2
  cases hk : K.lookup a with
  | some o =>
    have e := inK a o hk
    rw [oa] at e
    cases e
    refine main (fun _ => none) (fun _ => .inl rfl) (.inr ⟨_, vs.toArray, _, hk, rfl, rfl, rfl, ?_, by simpa using items⟩) (fun b u y => nomatch (show (none : Option HO) = some u from y)) (fun b y => absurd rfl y) fun y => absurd rfl y
    rw [List.size_toArray, count]
    exact hl
  | none =>
    have at_a : ∀ b, b ≠ a → (fun b => if b = a then some (HO.frz { cls := .type "list", data := .seq vs.toArray } (.lst (ns.map V.int))) else none) b = none := fun b hb => if_neg hb
    refine main (fun b => if b = a then some (.frz { cls := .type "list", data := .seq vs.toArray } (.lst (ns.map V.int))) else none) ?_ (.inl (.inr ⟨{ cls := .type "list", data := .seq vs.toArray }, if_pos rfl⟩)) ?_ ?_ fun _ => hk
    · intro b
      by_cases hb : b = a
      · exact .inr ⟨_, _, if_pos hb⟩
      · exact .inl (if_neg hb)
    · intro b u y
      by_cases hb : b = a
      · subst hb
        have y' := (if_pos rfl).symm.trans y
        cases y'
        exact ⟨oa, by rw [List.length_map]; exact hl, vs, _, items, oa⟩
      · rw [at_a b hb] at y
        cases y
    · intro b y
      by_cases hb : b = a
      · exact hb
      · exact absurd (at_a b hb) y
/-- the goal that the head's word leaves, from such a promise of the law -/
theorem walkG {l : PySem.W.OpenLaw} {n k : Nat} {q : Program} {loose : List Str} {XP : (Str → Option Value) → Heap → Prop} {YP : World → Heap → Prop} {d : DefRec} {K : Params → PySem.W.Frag} {sp : World → Sp} {x : Str}
    (hn : l.most = some n) (hn2 : n ≤ sizeLine) (hdf : d.params.defaults = []) (hr : Room k callerA) (hY : ∀ (w : World) (h : Heap), YP w h → (K w.params).In h)
    (F : ∀ (w : World) (mg : Str → Option Value) (fa : Addr) (h : Heap), (K w.params).In h → h.Ns mainGlobals mg → mg d.name = some (.ref fa) →
      ∃ fd : FuncData, (∀ (s : Shared) (u : Value), BindsTo s fd ⟨[u], []⟩ [(x, u)]) ∧
        ∀ base : Heap, (K w.params).In base → base.Ns mainGlobals mg → FnG l.prog w (K w.params) mg base (L2.CX l.prog w) k fa fd [x] (sp w))
    (hsp : ∀ (w : World) (G : Hp) (a : Addr) (ns : List Int), ns.length ≤ n → Only G → SqL (K w.params) G a (ns.map V.int) → sp w [.ref a] G (fun v _ => v = .bl true) fun _ _ _ => False) :
    PySem.W.WalkO q loose XP YP l.row.toRowW d [] (fun f vs => PySem.call f vs) := by
  apply Att.attach_call hn hdf
  intro w s₀ z mg mb fa o pm cd doc a vs ns G Y ho hd hcd hmg hobj hints hlen hg
  have inK := hY w _ Y
  obtain ⟨fd, hb, hF⟩ := F w mg fa _ inK G.T.g hmg
  exact law_callG inK G.T.g G.T.b G.T.builtins G.T.nolimit hg hobj hints (Nat.le_trans hlen hn2) hr hF hb (fun H hO hS => hsp w H a ns hlen hO hS)
end Sl

set_option Elab.async false
set_option linter.all false
set_option maxRecDepth 100000
set_option maxHeartbeats 400000
/-! ## Values without lists and dicts as data: their texts have a bounded length -/
namespace Sl
open PySem PySem.Spec PyProof.Rows L2
mutual
def D.py : D → PyData
  | .non => .none
  | .bl b => .bool b
  | .int i => .int i
  | .str x => .str x
  | .tup ds => .tuple (D.pys ds)
  | .lst => .none
  | .dct => .none
def D.pys : List D → List PyData
  | [] => []
  | d :: ds => d.py :: D.pys ds
end
mutual
/-- tuples, bools, none and ints below 2 ^ 128 -/
def D.good : D → Bool
  | .non => true
  | .bl _ => true
  | .int i => decide (i.natAbs.log2 < 128)
  | .tup ds => D.goods ds
  | _ => false
def D.goods : List D → Bool
  | [] => true
  | d :: ds => d.good && D.goods ds
end
mutual
def D.wt : D → Nat
  | .tup ds => D.wts ds + 3
  | _ => 129
def D.wts : List D → Nat
  | [] => 0
  | d :: ds => d.wt + 2 + D.wts ds
end
mutual
def D.dep : D → Nat
  | .tup ds => D.deps ds + 1
  | _ => 0
def D.deps : List D → Nat
  | [] => 0
  | d :: ds => max d.dep (D.deps ds)
end
theorem good_and {d : D} {ds : List D} (h : D.goods (d :: ds) = true) : d.good = true ∧ D.goods ds = true := by
  simp only [D.goods, Bool.and_eq_true] at h
  exact h
theorem goods_of : ∀ {ds : List D}, (∀ d ∈ ds, d.good = true) → D.goods ds = true
  | [], _ => by simp only [D.goods]
  | d :: ds, h => by
    simp only [D.goods, Bool.and_eq_true]
    exact ⟨h d List.mem_cons_self, goods_of fun x hx => h x (List.mem_cons_of_mem _ hx)⟩
theorem goods_mem : ∀ {ds : List D}, D.goods ds = true → ∀ d ∈ ds, d.good = true
  | [], _, _, h => absurd h List.not_mem_nil
  | x :: xs, g, d, h => by
    have := good_and g
    rcases List.mem_cons.mp h with e | e
    · rw [e]
      exact this.1
    · exact goods_mem this.2 d e
section
variable {K : PySem.W.Frag} {H : Hp}
mutual
theorem Rdd.dp : ∀ (d : D) {v : V}, d.good = true → Rdd K H v d → Dp K H v d.py
  | .non, _, _, h => by cases h; simp only [D.py]; exact .non
  | .bl b, _, _, h => by cases h; simp only [D.py]; exact .bl b
  | .int i, _, _, h => by cases h; simp only [D.py]; exact .int i
  | .str x, _, g, _ => by simp [D.good] at g
  | .tup ds, _, g, h => by
    simp only [D.good] at g
    cases h with
    | tup hs ha _ =>
      simp only [D.py]
      exact .tup hs (RddAll.dp ds g ha)
  | .lst, _, g, _ => by simp [D.good] at g
  | .dct, _, g, _ => by simp [D.good] at g
theorem RddAll.dp : ∀ (ds : List D) {vs : List V}, D.goods ds = true → RddAll K H vs ds → DpAll K H vs (D.pys ds)
  | [], _, _, h => by cases h; simp only [D.pys]; exact .nil
  | d :: ds, _, g, h => by
    have g2 := good_and g
    cases h with
    | cons h1 h2 =>
      simp only [D.pys]
      exact .cons (Rdd.dp d g2.1 h1) (RddAll.dp ds g2.2 h2)
end
end
mutual
theorem good_show : ∀ d : D, d.good = true → d.py.showable = true ∧ d.py.canLay0 = true
  | .non, _ => by simp [D.py, PyData.showable, PyData.canLay0]
  | .bl b, _ => by simp [D.py, PyData.showable, PyData.canLay0]
  | .int i, g => by
    simp only [D.good, decide_eq_true_eq] at g
    simp only [D.py, PyData.showable, PyData.canLay0, decide_eq_true_eq, and_true]
    omega
  | .str x, g => by simp [D.good] at g
  | .tup ds, g => by
    simp only [D.good] at g
    simp only [D.py, PyData.showable, PyData.canLay0]
    exact goods_show ds g
  | .lst, g => by simp [D.good] at g
  | .dct, g => by simp [D.good] at g
theorem goods_show : ∀ ds : List D, D.goods ds = true → PyData.showableAll (D.pys ds) = true ∧ PyData.canLayAll0 (D.pys ds) = true
  | [], _ => by simp [D.pys, PyData.showableAll, PyData.canLayAll0]
  | d :: ds, g => by
    have g2 := good_and g
    have h1 := good_show d g2.1
    have h2 := goods_show ds g2.2
    simp only [D.pys, PyData.showableAll, PyData.canLayAll0, Bool.and_eq_true]
    exact ⟨⟨h1.1, h2.1⟩, h1.2, h2.2⟩
end
mutual
theorem dep_py : ∀ d : D, d.py.depth ≤ d.dep
  | .non => by simp [D.py, PyData.depth, D.dep]
  | .bl b => by simp [D.py, PyData.depth, D.dep]
  | .int i => by simp [D.py, PyData.depth, D.dep]
  | .str x => by simp [D.py, PyData.depth, D.dep]
  | .tup ds => by
    simp only [D.py, PyData.depth, D.dep]
    have := deps_py ds
    omega
  | .lst => by simp [D.py, PyData.depth, D.dep]
  | .dct => by simp [D.py, PyData.depth, D.dep]
theorem deps_py : ∀ ds : List D, PyData.depthAll (D.pys ds) ≤ D.deps ds
  | [] => by simp [D.pys, PyData.depthAll, D.deps]
  | d :: ds => by
    simp only [D.pys, PyData.depthAll, D.deps]
    have h1 := dep_py d
    have h2 := deps_py ds
    omega
end
mutual
theorem shown_wt : ∀ d : D, d.good = true → d.py.shown.length ≤ d.wt
  | .non, _ => by
    simp only [D.py, PyData.shown_none, D.wt]
    decide +kernel
  | .bl b, _ => by
    simp only [D.py, PyData.shown_bool, D.wt]
    cases b <;> decide +kernel
  | .int i, g => by
    simp only [D.good, decide_eq_true_eq] at g
    simp only [D.py, PyData.shown_int, D.wt]
    have e := int_text_length_le (k := 128) (by decide) g
    rw [PySem.ofString_length]
    exact e
  | .str x, g => by simp [D.good] at g
  | .tup ds, g => by
    simp only [D.good] at g
    simp only [D.py, D.wt, PyData.shown]
    have h1 := tupleText_len_le (PyData.shownAll (D.pys ds))
    have h2 := shown_wts ds g
    omega
  | .lst, g => by simp [D.good] at g
  | .dct, g => by simp [D.good] at g
theorem shown_wts : ∀ ds : List D, D.goods ds = true → ((PyData.shownAll (D.pys ds)).map (·.length)).sum + 2 * (PyData.shownAll (D.pys ds)).length ≤ D.wts ds
  | [], _ => by simp [D.pys, PyData.shownAll, D.wts]
  | d :: ds, g => by
    have g2 := good_and g
    have h1 := shown_wt d g2.1
    have h2 := shown_wts ds g2.2
    simp only [D.pys, PyData.shownAll, D.wts, List.map_cons, List.sum_cons, List.length_cons]
    omega
end
theorem wts_append : ∀ (a b : List D), D.wts (a ++ b) = D.wts a + D.wts b
  | [], b => by simp [D.wts]
  | d :: ds, b => by
    simp only [List.cons_append, D.wts, wts_append ds b]
    omega
theorem wts_take (k : Nat) (ds : List D) : D.wts (ds.take k) ≤ D.wts ds := by
  have e := wts_append (ds.take k) (ds.drop k)
  rw [List.take_append_drop] at e
  omega
theorem wts_len : ∀ ds : List D, ds.length ≤ D.wts ds
  | [] => by simp [D.wts]
  | d :: ds => by
    have := wts_len ds
    simp only [D.wts, List.length_cons]
    omega
/-- what repr asks of such a value -/
theorem rRepr_of {K : PySem.W.Frag} {H : Hp} {v : V} {d : D} {Q : VK} (r : Rdd K H v d) (g : d.good = true) (hd : d.dep ≤ 40) (hw : d.wt ≤ 1000000) (q : Q (.str d.py.shown) H) : rRepr K [v] H Q := by
  have h1 := dep_py d
  have h2 := shown_wt d g
  have h3 : sizeLine = 16777216 := sizeLine_eq
  exact ⟨v, d.py, rfl, Rdd.dp d g r, (good_show d g).1, by omega, by omega, q⟩
/-- v != u of equal such values -/
theorem rNe_same {K : PySem.W.Frag} {H : Hp} {v u : V} {d : D} {Q : VK} (r1 : Rdd K H v d) (r2 : Rdd K H u d) (g : d.good = true) (hd : d.dep ≤ 40) (q : Q (.bl false) H) : rNeD K v u H Q := by
  have h1 := dep_py d
  have c := (good_show d g).2
  have s : SeqAt.shaped d.py = true := by
    unfold SeqAt.shaped
    rw [c, decide_eq_true (show d.py.depth ≤ 64 by omega)]
    rfl
  refine ⟨d.py, d.py, Rdd.dp d g r1, Rdd.dp d g r2, s, s, ?_⟩
  rw [SeqAt.eqv_refl d.py c]
  exact q
theorem rEq_same {K : PySem.W.Frag} {H : Hp} {v u : V} {d : D} {Q : VK} (r1 : Rdd K H v d) (r2 : Rdd K H u d) (g : d.good = true) (hd : d.dep ≤ 40) (q : Q (.bl true) H) : rEqD K v u H Q := by
  have h1 := dep_py d
  have c := (good_show d g).2
  have s : SeqAt.shaped d.py = true := by
    unfold SeqAt.shaped
    rw [c, decide_eq_true (show d.py.depth ≤ 64 by omega)]
    rfl
  refine ⟨d.py, d.py, Rdd.dp d g r1, Rdd.dp d g r2, s, s, ?_⟩
  rw [SeqAt.eqv_refl d.py c]
  exact q
end Sl

set_option Elab.async false
set_option linter.all false
set_option maxRecDepth 100000
set_option maxHeartbeats 400000
/-! ## Open terms as data -/
namespace Sl
open PySem PySem.Spec PyProof.Rows L2
def nmTail (x : Str) : Bool := Txt.isascii x && (Txt.isalpha x && (Txt.islower x && !(x == "fun" || x == "let" || x == "in")))
def nmOk (x : Str) : Bool := decide (1 ≤ x.length ∧ x.length ≤ 8) && nmTail x
def D.isName : D → Bool
  | .str x => nmOk x
  | _ => false
def D.short : D → Bool
  | .tup l => decide (l.length ≤ 3)
  | _ => false
def D.fst : D → Str
  | .tup [.str x, _] => x
  | _ => ""
def D.snd : D → D
  | .tup [_, b] => b
  | _ => .non
def D.items : D → List D
  | .tup l => l
  | _ => []
def D.pair : D → Bool
  | .tup [a, _] => a.isName
  | _ => false
def D.defs : D → Bool
  | .tup l => decide (1 ≤ l.length ∧ l.length ≤ 100) && (l.all D.pair && decide (l.map D.fst).Nodup)
  | _ => false
def built3 (s : Str) (b c : D) : Bool := if s = "word" then b.isName && c.short else if s = "fun" then b.isName else decide (s = "let") && b.defs
/-- what the program asks of one part -/
def built : D → Bool
  | .tup [.str s, b] => decide (s = "name") && b.isName
  | .tup [.str s, b, c] => built3 s b c
  | _ => false
def inn3 (s : Str) (b c : D) : List D := if s = "word" then c.items else if s = "fun" then [c] else b.items.map D.snd ++ [c]
/-- the terms directly in one -/
def inn : D → List D
  | .tup [.str s, b, c] => inn3 s b c
  | _ => []
def D.small : D → Bool
  | .str x => decide (x.length ≤ 1000)
  | _ => true
def D.pairS : D → Bool
  | .tup [a, _] => a.small
  | _ => true
def D.smalls : D → Bool
  | .tup l => decide (l.length ≤ 1000) && l.all D.pairS
  | x => x.small
/-- what is asked for the first places of a tuple -/
def D.hd : D → Bool
  | .tup [a, b] => match a with | .str _ => b.small | _ => false
  | .tup [a, b, c] => match a with | .str _ => b.smalls | _ => false
  | _ => true
theorem nm_small {x : Str} (h : nmOk x = true) : x.length ≤ 8 := by
  unfold nmOk at h
  simp only [Bool.and_eq_true, decide_eq_true_eq] at h
  exact h.1.2
theorem isName_small {d : D} (h : d.isName = true) : d.small = true := by
  unfold D.isName at h
  split at h
  · rename_i x
    have := nm_small h
    exact decide_eq_true (by omega)
  · cases h
theorem isName_smalls {d : D} (h : d.isName = true) : d.smalls = true := by
  unfold D.isName at h
  split at h
  · rename_i x
    have := nm_small h
    exact decide_eq_true (by omega)
  · cases h
def OpN : Nat → D → Prop
  | 0, _ => False
  | n + 1, d => (built d = true ∧ (inn d).length ≤ 4) ∧ ∀ e ∈ inn d, OpN n e
def cnt : Nat → D → Nat
  | 0, _ => 0
  | n + 1, d => 1 + ((inn d).map (cnt n)).sum
def HdN : Nat → D → Prop
  | 0, _ => True
  | n + 1, d => d.hd = true ∧ ∀ e ∈ inn d, HdN n e
def Bad : Nat → D → Prop
  | 0, d => built d = false
  | n + 1, d => built d = false ∨ ∃ e ∈ inn d, Bad n e
def opn : Nat → Nat → List D → Bool
  | 0, _, _ => false
  | k + 1, m, l => if m + l.length > 500 ∨ l.all built = false then false else if (l.flatMap inn).isEmpty = true then true else opn k (m + l.length) (l.flatMap inn)
def isOpen (d : D) : Bool := opn 120 0 [d]
theorem defs_smalls {d : D} (h : d.defs = true) : d.smalls = true := by
  unfold D.defs at h
  split at h
  · rename_i l
    simp only [Bool.and_eq_true, decide_eq_true_eq, List.all_eq_true] at h
    show (decide (l.length ≤ 1000) && l.all D.pairS) = true
    simp only [Bool.and_eq_true, decide_eq_true_eq, List.all_eq_true]
    refine ⟨by omega, fun x hx => ?_⟩
    have hp := h.2.1 x hx
    unfold D.pair at hp
    split at hp
    · exact isName_small hp
    · cases hp
  · cases h
theorem built_hd {d : D} (h : built d = true) : d.hd = true := by
  unfold built at h
  split at h
  · simp only [Bool.and_eq_true] at h
    exact isName_small h.2
  · rename_i s b c
    unfold built3 at h
    show b.smalls = true
    split at h
    · simp only [Bool.and_eq_true] at h
      exact isName_smalls h.1
    · split at h
      · exact isName_smalls h
      · simp only [Bool.and_eq_true] at h
        exact defs_smalls h.2
  · cases h
theorem OpN.hd : ∀ {n : Nat} {d : D}, OpN n d → ∀ k, HdN k d
  | 0, _, h, _ => h.elim
  | n + 1, d, h, 0 => trivial
  | n + 1, d, h, k + 1 => ⟨built_hd h.1.1, fun e he => OpN.hd (h.2 e he) k⟩
theorem sum_flat (g : D → Nat) : ∀ l : List D, ((l.flatMap inn).map g).sum = (l.map fun d => ((inn d).map g).sum).sum
  | [] => rfl
  | d :: l => by
    rw [List.flatMap_cons, List.map_append, List.sum_append, sum_flat g l, List.map_cons, List.sum_cons]
theorem sum_one (g : D → Nat) : ∀ l : List D, (l.map fun d => 1 + g d).sum = l.length + (l.map g).sum
  | [] => rfl
  | d :: l => by
    rw [List.map_cons, List.sum_cons, sum_one g l, List.map_cons, List.sum_cons, List.length_cons]
    omega
theorem opn_true : ∀ (n : Nat) (l : List D) (m k : Nat), (∀ d ∈ l, OpN n d) → l ≠ [] → m + (l.map (cnt n)).sum ≤ 500 → n ≤ k → opn k m l = true
  | 0, [], _, _, _, h, _, _ => absurd rfl h
  | 0, d :: _, _, _, h, _, _, _ => (h d List.mem_cons_self).elim
  | n + 1, l, m, 0, _, _, _, h => absurd h (by omega)
  | n + 1, l, m, k + 1, h, hne, hs, hk => by
    have e1 : (l.map (cnt (n + 1))).sum = l.length + ((l.flatMap inn).map (cnt n)).sum := by
      rw [sum_flat]
      exact sum_one (fun d => ((inn d).map (cnt n)).sum) l
    have hb : l.all built = true := List.all_eq_true.mpr fun d hd => (h d hd).1.1
    unfold opn
    rw [if_neg (by rw [hb]; simp; omega)]
    split
    · rfl
    · rename_i hq
      refine opn_true n _ _ k (fun e he => ?_) (fun z => hq (by rw [z]; rfl)) (by omega) (by omega)
      obtain ⟨d, hd, he⟩ := List.mem_flatMap.mp he
      exact (h d hd).2 e he
theorem opn_false : ∀ (n k m : Nat) (l : List D), n < k → (∃ d ∈ l, Bad n d) → opn k m l = false
  | _, 0, _, _, h, _ => absurd h (by omega)
  | 0, k + 1, m, l, _, ⟨d, hd, hb⟩ => by
    unfold opn
    rw [if_pos]
    right
    refine Bool.eq_false_iff.mpr fun z => ?_
    have := List.all_eq_true.mp z d hd
    rw [show built d = false from hb] at this
    cases this
  | n + 1, k + 1, m, l, hk, ⟨d, hd, hb⟩ => by
    unfold opn
    by_cases hq : m + l.length > 500 ∨ l.all built = false
    · rw [if_pos hq]
    · rw [if_neg hq]
      rcases hb with hb | ⟨e, he, hb⟩
      · refine absurd (Or.inr ?_) hq
        refine Bool.eq_false_iff.mpr fun z => ?_
        have := List.all_eq_true.mp z d hd
        rw [hb] at this
        cases this
      · have hm : e ∈ l.flatMap inn := List.mem_flatMap.mpr ⟨d, hd, he⟩
        rw [if_neg (fun z => by
          have z' := List.isEmpty_iff.mp z
          rw [z'] at hm
          cases hm)]
        exact opn_false n k _ _ (by omega) ⟨e, hm, hb⟩
theorem isOpen_of {n : Nat} {d : D} (h : OpN n d) (hn : n ≤ 120) (hc : cnt n d ≤ 500) : isOpen d = true :=
  opn_true n [d] 0 120 (fun x hx => by rw [List.mem_singleton.mp hx]; exact h) (by simp) (by simp; omega) hn
theorem isOpen_bad {n : Nat} {d : D} (h : Bad n d) (hn : n < 120) : isOpen d = false := opn_false n 120 0 [d] hn ⟨d, List.mem_singleton.mpr rfl, h⟩
theorem cnt_pos {n : Nat} {d : D} (h : OpN n d) : 1 ≤ cnt n d := by
  cases n with
  | zero => exact h.elim
  | succ n => unfold cnt; omega
theorem cnt_mem {n : Nat} {d e : D} (he : e ∈ inn d) : cnt n e + 1 ≤ cnt (n + 1) d := by
  have key : ∀ l : List D, e ∈ l → cnt n e ≤ (l.map (cnt n)).sum := by
    intro l
    induction l with
    | nil => intro h; cases h
    | cons x l ih =>
      intro h
      rw [List.map_cons, List.sum_cons]
      rcases List.mem_cons.mp h with rfl | h
      · omega
      · have := ih h
        omega
  have := key _ he
  have e2 : cnt (n + 1) d = 1 + ((inn d).map (cnt n)).sum := rfl
  omega
/-! ### the four forms -/
def mkU (x : Str) : D := .tup [.str "name", .str x]
def mkW (x : Str) (l : List D) : D := .tup [.str "word", .str x, .tup l]
def mkF (x : Str) (b : D) : D := .tup [.str "fun", .str x, b]
def mkPs (ps : List (Str × D)) : List D := ps.map fun p => .tup [.str p.1, p.2]
def mkL (ps : List (Str × D)) (b : D) : D := .tup [.str "let", .tup (mkPs ps), b]
theorem ne_wf : ¬ ((("fun" : Str)) = "word") := by decide +kernel
theorem ne_wl : ¬ ((("let" : Str)) = "word") := by decide +kernel
theorem ne_fl : ¬ ((("let" : Str)) = "fun") := by decide +kernel
theorem mkPs_fst (ps : List (Str × D)) : (mkPs ps).map D.fst = ps.map (·.1) := by
  unfold mkPs
  rw [List.map_map]
  rfl
theorem mkPs_snd (ps : List (Str × D)) : (mkPs ps).map D.snd = ps.map (·.2) := by
  unfold mkPs
  rw [List.map_map]
  rfl
theorem mkPs_all (ps : List (Str × D)) : (mkPs ps).all D.pair = ps.all fun p => nmOk p.1 := by
  unfold mkPs
  rw [List.all_map]
  rfl
@[simp] theorem inn_U (x : Str) : inn (mkU x) = [] := rfl
@[simp] theorem inn_W (x : Str) (l : List D) : inn (mkW x l) = l := by
  show inn3 "word" (.str x) (.tup l) = l
  unfold inn3
  rw [if_pos rfl]
  rfl
@[simp] theorem inn_F (x : Str) (b : D) : inn (mkF x b) = [b] := by
  show inn3 "fun" (.str x) b = [b]
  unfold inn3
  rw [if_neg ne_wf, if_pos rfl]
@[simp] theorem inn_L (ps : List (Str × D)) (b : D) : inn (mkL ps b) = ps.map (·.2) ++ [b] := by
  show inn3 "let" (.tup (mkPs ps)) b = _
  unfold inn3
  rw [if_neg ne_wl, if_neg ne_fl]
  show (mkPs ps).map D.snd ++ [b] = _
  rw [mkPs_snd]
theorem built_U {x : Str} : built (mkU x) = nmOk x := by
  show (decide (("name" : Str) = "name") && nmOk x) = _
  rw [decide_eq_true rfl, Bool.true_and]
theorem built_W {x : Str} {l : List D} : built (mkW x l) = (nmOk x && decide (l.length ≤ 3)) := by
  show built3 "word" (.str x) (.tup l) = _
  unfold built3
  rw [if_pos rfl]
  rfl
theorem built_F {x : Str} {b : D} : built (mkF x b) = nmOk x := by
  show built3 "fun" (.str x) b = _
  unfold built3
  rw [if_neg ne_wf, if_pos rfl]
  rfl
/-- definitions as a block has them -/
def DefOk (ps : List (Str × D)) : Prop := 1 ≤ ps.length ∧ ps.length ≤ 100 ∧ (∀ p ∈ ps, nmOk p.1 = true) ∧ (ps.map (·.1)).Nodup
theorem built_L {ps : List (Str × D)} {b : D} : built (mkL ps b) = true ↔ DefOk ps := by
  show built3 "let" (.tup (mkPs ps)) b = true ↔ _
  unfold built3
  rw [if_neg ne_wl, if_neg ne_fl]
  show (decide (("let" : Str) = "let") && (decide (1 ≤ (mkPs ps).length ∧ (mkPs ps).length ≤ 100) && ((mkPs ps).all D.pair && decide ((mkPs ps).map D.fst).Nodup))) = true ↔ _
  rw [mkPs_all, mkPs_fst, show (mkPs ps).length = ps.length from List.length_map ..]
  simp only [decide_true, Bool.true_and, Bool.and_eq_true, decide_eq_true_eq, List.all_eq_true, DefOk, and_assoc]
/-- what is built is one of the four -/
theorem defs_of {b : D} (h : b.defs = true) : ∃ ps, b = .tup (mkPs ps) ∧ DefOk ps := by
  cases b with
  | tup l =>
    simp only [D.defs, Bool.and_eq_true, decide_eq_true_eq, List.all_eq_true] at h
    obtain ⟨⟨h1, h2⟩, h3, h4⟩ := h
    have key : ∀ l : List D, (∀ d ∈ l, d.pair = true) → ∃ ps : List (Str × D), l = mkPs ps := by
      intro l
      induction l with
      | nil => exact fun _ => ⟨[], rfl⟩
      | cons d l ih =>
        intro hp
        obtain ⟨ps, e⟩ := ih fun x hx => hp x (List.mem_cons_of_mem _ hx)
        have hd := hp d List.mem_cons_self
        unfold D.pair at hd
        split at hd
        · rename_i a b
          unfold D.isName at hd
          split at hd
          · rename_i x
            exact ⟨(x, b) :: ps, by rw [e]; rfl⟩
          · cases hd
        · cases hd
    obtain ⟨ps, e⟩ := key l h3
    subst e
    refine ⟨ps, rfl, ?_⟩
    rw [mkPs_fst] at h4
    refine ⟨by simpa [mkPs] using h1, by simpa [mkPs] using h2, fun p hp => ?_, h4⟩
    exact h3 (.tup [.str p.1, p.2]) (List.mem_map.mpr ⟨p, hp, rfl⟩)
  | _ => cases h
theorem built_cases {d : D} (h : built d = true) : (∃ x, d = mkU x ∧ nmOk x = true) ∨ (∃ x l, d = mkW x l ∧ nmOk x = true ∧ l.length ≤ 3) ∨ (∃ x b, d = mkF x b ∧ nmOk x = true) ∨ ∃ ps b, d = mkL ps b ∧ DefOk ps := by
  unfold built at h
  split at h
  · rename_i s b
    simp only [Bool.and_eq_true, decide_eq_true_eq] at h
    obtain ⟨rfl, h⟩ := h
    unfold D.isName at h
    split at h
    · rename_i x
      exact .inl ⟨x, rfl, h⟩
    · cases h
  · rename_i s b c
    unfold built3 at h
    split at h
    · rename_i e
      subst e
      simp only [Bool.and_eq_true] at h
      obtain ⟨h1, h2⟩ := h
      unfold D.isName at h1
      split at h1
      · rename_i x
        unfold D.short at h2
        split at h2
        · rename_i l
          exact .inr (.inl ⟨x, l, rfl, h1, of_decide_eq_true h2⟩)
        · cases h2
      · cases h1
    · split at h
      · rename_i e
        subst e
        unfold D.isName at h
        split at h
        · rename_i x
          exact .inr (.inr (.inl ⟨x, c, rfl, h⟩))
        · cases h
      · simp only [Bool.and_eq_true, decide_eq_true_eq] at h
        obtain ⟨rfl, h⟩ := h
        obtain ⟨ps, rfl, hp⟩ := defs_of h
        exact .inr (.inr (.inr ⟨ps, c, rfl, hp⟩))
  · cases h
theorem inn_len {d : D} (h : built d = true) : (inn d).length ≤ 101 := by
  rcases built_cases h with ⟨x, rfl, _⟩ | ⟨x, l, rfl, _, hl⟩ | ⟨x, b, rfl, _⟩ | ⟨ps, b, rfl, hp⟩
  · simp
  · rw [inn_W]; omega
  · simp
  · rw [inn_L, List.length_append, List.length_map]
    have := hp.2.1
    simp
    omega
theorem flat_len : ∀ {l : List D}, (∀ d ∈ l, built d = true) → (l.flatMap inn).length ≤ 101 * l.length
  | [], _ => by simp
  | d :: l, h => by
    rw [List.flatMap_cons, List.length_append, List.length_cons]
    have h1 := inn_len (h d List.mem_cons_self)
    have h2 := flat_len fun x hx => h x (List.mem_cons_of_mem (a := x) d hx)
    omega
end Sl

set_option Elab.async false
set_option linter.all false
set_option maxRecDepth 100000
set_option maxHeartbeats 3200000
/-! ## How many different strings a list has -/
namespace Sl
open PySem PySem.Spec PyProof.Rows L2
/-- the strings that are met first -/
def met : List Str → Nat → List Str
  | _, 0 => []
  | xs, i + 1 => if (met xs i).any (· == xs.getD i Str.empty) = true then met xs i else met xs i ++ [xs.getD i Str.empty]
theorem met_len (xs : List Str) : ∀ i, (met xs i).length ≤ i
  | 0 => Nat.le_refl 0
  | i + 1 => by
    have := met_len xs i
    unfold met
    split
    · omega
    · rw [List.length_append]
      simp
      omega
theorem met_any (xs : List Str) (i : Nat) (y : Str) : ((met xs i).any (· == y) || decide (y = xs.getD i Str.empty)) = (met xs (i + 1)).any (· == y) := by
  rw [show met xs (i + 1) = if (met xs i).any (· == xs.getD i Str.empty) = true then met xs i else met xs i ++ [xs.getD i Str.empty] from rfl]
  by_cases e : y = xs.getD i Str.empty
  · subst e
    split
    · rename_i h
      rw [h]
      rfl
    · rw [List.any_append]
      simp
  · rw [decide_eq_false e, Bool.or_false]
    split
    · rfl
    · rw [List.any_append]
      have : ([xs.getD i Str.empty].any (· == y)) = false := by
        simp only [List.any_cons, List.any_nil, Bool.or_false]
        exact beq_eq_false_iff_ne.mpr fun z => e z.symm
      rw [this, Bool.or_false]
theorem met_step (xs : List Str) (i : Nat) : (if (met xs i).any (· == xs.getD i Str.empty) = true then (met xs i).length else (met xs i).length + 1) = (met xs (i + 1)).length := by
  rw [show met xs (i + 1) = if (met xs i).any (· == xs.getD i Str.empty) = true then met xs i else met xs i ++ [xs.getD i Str.empty] from rfl]
  split
  · rfl
  · rw [List.length_append] <;> rfl
theorem met_nodup {xs : List Str} (h : xs.Nodup) : ∀ i, i ≤ xs.length → met xs i = xs.take i
  | 0, _ => rfl
  | i + 1, hi => by
    have hlt : i < xs.length := hi
    have e := met_nodup h i (by omega)
    have e1 : xs.getD i Str.empty = xs[i] := by simp [hlt]
    have no : (xs.take i).any (· == xs[i]) = false := by
      refine Bool.eq_false_iff.mpr fun z => ?_
      obtain ⟨y, hy, hz⟩ := List.any_eq_true.mp z
      obtain ⟨j, hj, ej⟩ := List.getElem_of_mem hy
      rw [List.length_take] at hj
      rw [List.getElem_take] at ej
      have e2 := beq_iff_eq.mp hz
      rw [← ej] at e2
      have := (List.nodup_iff_pairwise_ne.mp h)
      exact absurd e2 ((List.pairwise_iff_getElem.mp this) j i (by omega) hlt (by omega))
    rw [show met xs (i + 1) = if (met xs i).any (· == xs.getD i Str.empty) = true then met xs i else met xs i ++ [xs.getD i Str.empty] from rfl, e, e1, no, List.take_add_one, List.getElem?_eq_getElem hlt]
    rfl
/-- as many as the list is long: all different -/
theorem met_all (xs : List Str) : ∀ i, i ≤ xs.length → (met xs i).length = i → (xs.take i).Nodup ∧ met xs i = xs.take i
  | 0, _, _ => ⟨List.nodup_nil, rfl⟩
  | i + 1, hi, h => by
    have hlt : i < xs.length := hi
    have e1 : xs.getD i Str.empty = xs[i] := by simp [hlt]
    have hl := met_len xs i
    have s := met_step xs i
    rw [h] at s
    by_cases q : (met xs i).any (· == xs.getD i Str.empty) = true
    · rw [if_pos q] at s
      omega
    · rw [if_neg q] at s
      obtain ⟨h1, h2⟩ := met_all xs i (by omega) (by omega)
      have e3 : met xs (i + 1) = met xs i ++ [xs.getD i Str.empty] := by
        rw [show met xs (i + 1) = if (met xs i).any (· == xs.getD i Str.empty) = true then met xs i else met xs i ++ [xs.getD i Str.empty] from rfl, if_neg q]
      have e4 : xs.take (i + 1) = xs.take i ++ [xs[i]] := by
        rw [List.take_add_one, List.getElem?_eq_getElem hlt]
        rfl
      rw [e3, h2, e1, e4]
      refine ⟨?_, rfl⟩
      rw [List.nodup_append]
      refine ⟨h1, by simp, fun a ha b hb z => q ?_⟩
      rw [List.mem_singleton.mp hb] at z
      rw [h2, e1]
      exact List.any_eq_true.mpr ⟨a, ha, by rw [z]; exact beq_self_eq_true _⟩
theorem met_full {xs : List Str} : decide ((met xs xs.length).length = xs.length) = decide xs.Nodup := by
  refine decide_eq_decide.mpr ⟨fun h => ?_, fun h => ?_⟩
  · have := (met_all xs _ (Nat.le_refl _) h).1
    rwa [List.take_length] at this
  · rw [met_nodup h _ (Nat.le_refl _), List.take_length]
section
variable {prog : Program} {w : World} {A : Around} {R : Result → Shared → Prop} {it : Addr} {fp wr : List Addr} {Gn : Array GenState → Array GenState → Prop} {n : Nat} {Pi : Nat → Value → Prop} {Si : Nat → Shared → Prop}
theorem set_loop (Wk : WalksS prog w A.in1 it fp wr Gn n Pi Si) (d : Addr) (off : d ∉ fp) (xs : List Str) (small : n + 1 < scanBound)
    (each : ∀ j v, Pi j v → ∃ t, v = .str (xs.getD j Str.empty) t) :
    ∀ (m i : Nat) (z : Shared), n - i = m → i ≤ n → Si i z → z.heap.SetOf (PySem.strKind prog w) d (fun y => (met xs i).any (· == y)) (met xs i).length →
      (∀ z', Moved (d :: wr) Gn z z' → z'.heap.SetOf (PySem.strKind prog w) d (fun y => (met xs n).any (· == y)) (met xs n).length → R (.ok (.ret .none)) z') →
      codeAny (model prog w) A (.builtin "set.update.loop" ⟨[.ref d, .ref it], []⟩) R z := by
  have nw : d ∉ wr := fun q => off (Wk.sub _ q)
  have sub : ∀ b ∈ wr, b ∈ d :: wr := fun b q => List.mem_cons_of_mem _ q
  intro m
  induction m with
  | zero =>
    intro i z e1 le at_i held fin
    obtain rfl : i = n := by omega
    refine codeAny_builtin PyProof.Rows.F.entry_set_update_loop ?_
    rw [Around.under_plainId PyProof.Rows.F.plain_set_update_loop _]
    show wpAny _ A.in1 (pyNext (.ref it) >>= _) _ _ z
    refine wpAny_bind (Wk.done z _ _ at_i fun z1 mv => wpAny_pure (fin z1 (mv.mono sub) ?_))
    obtain ⟨ob, u1, u2, u3, gt, more⟩ := held
    exact ⟨ob, u1, u2, u3, mv.heap d _ nw gt, more⟩
  | succ m ih =>
    intro i z e1 le at_i held fin
    have lt : i < n := by omega
    refine codeAny_builtin PyProof.Rows.F.entry_set_update_loop ?_
    rw [Around.under_plainId PyProof.Rows.F.plain_set_update_loop _]
    show wpAny _ A.in1 (pyNext (.ref it) >>= _) _ _ z
    refine wpAny_bind (Wk.item i z _ _ lt at_i fun v z1 pv at_1 mv => ?_)
    obtain ⟨t, rfl⟩ := each i v pv
    have held1 : z1.heap.SetOf (PySem.strKind prog w) d (fun y => (met xs i).any (· == y)) (met xs i).length := by
      obtain ⟨ob, u1, u2, u3, gt, more⟩ := held
      exact ⟨ob, u1, u2, u3, mv.heap d _ nw gt, more⟩
    show wpAny _ A.in1 (holding [Value.str (xs.getD i Str.empty) t] (setAdd d (.str (xs.getD i Str.empty) t)) >>= _) _ _ z1
    refine wpAny_bind (wpAny_holding ?_)
    unfold setAdd
    refine wpAny_holding (wpAny_bind ((PySem.strKind prog w).pyHash (k := xs.getD i Str.empty) (strKind_is _ _ _ _) ?_))
    have ml := met_len xs i
    refine wpAny_setAddHashed_of (knd := PySem.strKind prog w) (s := { z1 with toks := z1.toks + 1 }) (strKind_is _ _ _ _) rfl held1 (by omega) fun h2 sb held2 => ?_
    have held3 := SetOf_congr held2 (fun y => met_any xs i y) (met_step xs i)
    refine wpAny_pure ⟨plainId_quiet PyProof.Rows.F.plain_set_update_loop _, ih (i + 1) _ (by omega) lt (Wk.frame _ z1 _ _ at_1 (Nat.le_succ _) fun b q o e => ?_) held3 fun z2 mv2 held4 => ?_⟩
    · rw [sb.2 b (fun h : b = d => off (by rw [← h]; exact q))]
      exact e
    · refine fin z2 (Moved.trans Wk.gtrans ((mv.mono sub).then_heap (Nat.le_succ _) fun b o q e => ?_) mv2) held4
      rw [sb.2 b (fun h : b = d => q (by rw [h]; exact List.mem_cons_self))]
      exact e
end
section
variable {prog : Program} {w : World} {A : Around} {E : Value → Shared → Prop} {z : Shared}
theorem call_setStrs {l : Addr} {its : Array Value} {xs : List Str} {Q : Value → Shared → Prop}
    (cool : A.handled = none) (isL : z.heap.IsList l its) (all : PyProof.Rows.StrsAre its.toList xs) (small : xs.length + 1 < scanBound)
    (q : ∀ (h' : Heap) (tk : Nat), h'.SetOf (PySem.strKind prog w) z.heap.objs.size (fun y => (met xs xs.length).any (· == y)) (met xs xs.length).length →
      (∀ b o, b < z.heap.objs.size → z.heap.get? b = some o → h'.get? b = some o) → Q (.ref z.heap.objs.size) { z with heap := h', toks := tk }) :
    wpAny (model prog w) A (call (.type "set") [.ref l]) Q E z := by
  obtain ⟨c0, tl, mro⟩ := PySem.F.called_set.mro
  have made := PySem.F.called_set.made
  have sub0 := PySem.F.called_set.sub
  have len : xs.length = its.size := by rw [← StrsAre.len_eq all, Array.length_toList]
  refine wpAny_call (codeAny_of_tree ?_)
  show wpAny _ _ (callAny (.type "set") _) _ _ _
  refine wpAny_pure ⟨Code.quiet_builtin _ (by decide +kernel), codeAny_builtin PySem.F.entry_type_call ?_⟩
  rw [Around.under_plain (weight_type_call_type "set" [.ref l] []) rfl]
  have f1 := PySem.F.called_set.notType
  have f2 := PySem.F.called_set.canCreate
  have f3 := PySem.F.typeCall_set_1 (.ref l)
  repeat (any_goals (first | assumption | wp_step))
  refine codeAny_mono (code_set_new_1 (.ref l) (E := E) (Q₁ := fun ob z1 => ∃ led : Bool, ob = .ref z.heap.objs.size ∧ z1 = { z with heap := z.heap.push { cls := .type "set", dict := none, data := .set #[] 0 (.fresh 0 0 led) } }) fun led => ⟨led, rfl, rfl⟩) fun r z1 hr => ?_
  match r, hr with
  | .error e, hr => exact hr
  | .ok (.ret ob), hr =>
    obtain ⟨led, rfl, rfl⟩ := hr
    have hS : (z.heap.push { cls := .type "set", dict := none, data := .set #[] 0 (.fresh 0 0 led) }).get? z.heap.objs.size = some { cls := .type "set", dict := none, data := .set #[] 0 (.fresh 0 0 led) } := Heap.get?_push_size _ rfl
    have hT : Shared.TypeIs { z with heap := z.heap.push { cls := .type "set", dict := none, data := .set #[] 0 (.fresh 0 0 led) } } (.ref z.heap.objs.size) "set" := ⟨_, hS, rfl⟩
    have f4 := PySem.F.called_set.init.lookup
    have f5 := PySem.F.called_set.init.bind (.ref z.heap.objs.size)
    repeat (any_goals (first | assumption | wp_step))
    refine codeAny_mono (codeAny_call_builtin (R := wants (fun r z2 => r = .none ∧ ∃ h' tk, z2 = { z with heap := h', toks := tk } ∧
        h'.SetOf (PySem.strKind prog w) z.heap.objs.size (fun y => (met xs xs.length).any (· == y)) (met xs xs.length).length ∧
        (∀ b o, b < z.heap.objs.size → z.heap.get? b = some o → h'.get? b = some o)) E) PySem.F.called_set.init.plain PySem.F.entry_set_init (check_set_init_1 hT ?_)) fun r2 z2 hr2 => ?_
    · obtain ⟨⟨cls, dd, dt, sl⟩, gl, hc, nl, hd⟩ := isL
      simp only at hc hd
      subst hc hd
      have gl' : (z.heap.push { cls := .type "set", dict := none, data := .set #[] 0 (.fresh 0 0 led) }).get? l = some { cls := .type "list", dict := dd, data := .seq its nl, slots := sl } := Heap.get?_push_of_some _ gl
      have f6 := PySem.F.sub_list_set
      have f7 := PySem.F.sub_list_frozenset
      have f8 : (Value.type "list" == Value.type "dict") = false := by decide
      have isl : (z.heap.push { cls := .type "set", dict := none, data := .set #[] 0 (.fresh 0 0 led) }).IsList l its := ⟨_, gl', rfl, nl, rfl⟩
      unfold Builtin.«set.__init__» noKeywords Builtin.Frozenset.updateFrom
      generalize hPI : pyIter = PI
      wp_walk
      subst hPI
      refine wpAny_pyIter_list isl (wpAny_bind (wpAny_runValue ?_))
      have ls : l < z.heap.objs.size := Heap.lt_size gl
      have cool3 : A.in1.in1.in1.handled = none := by simp [cool]
      have ne1 : l ≠ (z.heap.push { cls := .type "set", dict := none, data := .set #[] 0 (.fresh 0 0 led) }).objs.size := by
        rw [Heap.size_push]
        exact Nat.ne_of_lt (Nat.lt_succ_of_lt ls)
      have off : z.heap.objs.size ∉ [(z.heap.push { cls := .type "set", dict := none, data := .set #[] 0 (.fresh 0 0 led) }).objs.size, l] := by
        rw [Heap.size_push]
        simp only [List.mem_cons, List.mem_singleton, List.not_mem_nil, or_false, not_or]
        exact ⟨Nat.ne_of_lt (Nat.lt_succ_self _), Nat.ne_of_gt ls⟩
      have each : ∀ (j : Nat) (v : Value), its[j]? = some v → ∃ t, v = .str (xs.getD j Str.empty) t := fun j v hv => SS.strs_at all j v (by rw [Array.getElem?_toList]; exact hv)
      refine set_loop ((Walks.list cool3 _ l ne1 its).toS) z.heap.objs.size off xs (by rw [← len]; exact small) each (its.size - 0) 0 _ (by omega) (Nat.zero_le _)
        ⟨⟨_, Heap.get?_push_size _ rfl, rfl, rfl⟩, (isl.push _)⟩ ?h0 ?h1
      case h0 =>
        have get0 : ((z.heap.push { cls := .type "set", dict := none, data := .set #[] 0 (.fresh 0 0 led) }).push { cls := .type "list_iterator", data := .fields #[.ref l, .int 0 0] }).get? z.heap.objs.size
            = some { cls := .type "set", dict := none, data := .set #[] 0 (.fresh 0 0 led) } := Heap.get?_push_of_some _ hS
        exact PyProof.Rows.SetOf_congr ((PyProof.Rows.setObjOf_fresh (knd := PySem.strKind prog w) led).setOf get0 (by unfold scanBound; omega)) (fun _ => rfl) rfl
      case h1 =>
        intro z3 mv held
        obtain ⟨h3, g3, d3, t3, o3⟩ := z3
        have eg : g3 = z.gens := mv.gens
        have ed : d3 = z.drawn := mv.drawn
        have eo : o3 = z.os := mv.os
        subst eg ed eo
        show wpAny _ _ _ _ _ _
        refine wpAny_pure ?_
        show wpAny _ _ (ret Value.none) _ _ _
        refine wpAny_pure ⟨rfl, h3, t3, rfl, by rw [len]; exact held, fun b o lt e => ?_⟩
        have b1 : b ≠ z.heap.objs.size := Nat.ne_of_lt lt
        have b2 : b ≠ (z.heap.push { cls := .type "set", dict := none, data := .set #[] 0 (.fresh 0 0 led) }).objs.size := by
          rw [Heap.size_push]
          exact Nat.ne_of_lt (Nat.lt_succ_of_lt lt)
        exact mv.heap b o (by simp only [List.mem_cons, List.mem_singleton, List.not_mem_nil, or_false, not_or]; exact ⟨b1, b2⟩) (Heap.get?_push_of_some _ (Heap.get?_push_of_some _ e))
    · match r2, hr2 with
      | .error e, hr2 => exact hr2
      | .ok (.ret r3), hr2 =>
        obtain ⟨rfl, h', tk, rfl, held, keep⟩ := hr2
        repeat (any_goals (first | assumption | wp_step))
        exact q _ _ held keep
end
/-- len(set(l)), l a list of strings -/
def tLenStrs (K : PySem.W.Frag) (ta : TE) : TE := fun σ H Q => ta σ H fun x H1 => ∃ (l : Addr) (xs : List Str), x = .ref l ∧ SqL K H1 l (xs.map V.str) ∧ xs.length ≤ 1000 ∧ Q (.int ((met xs xs.length).length : Nat)) H1
theorem pe_lenStrs {X : Cx} {a : Expr} {ta : TE} {p p2 q pos : Pos} (hg : Gl X "len") (hm : X.mg "len" = none) (hg2 : Gl X "set") (hm2 : X.mg "set" = none) (ha : PE X a ta) (cool : X.calm = true := by rfl)
    (na : starEach [a] X.env = (false, eval a X.env) :: starEach [] X.env := by rfl) : PE X (.Call (.Name "len" p) [.Call (.Name "set" p2) [a] [] q] [] pos) (tLenStrs X.K ta) := by
  constructor
  intro pins z σ H Q I h
  refine Call_ (ld_blt I hg hm boot_len (PyProof.Rows.callWith_builtin1 (PyProof.Rows.args_cons ?_ rfl) rfl rfl))
  refine Call_ (ld_blt I hg2 hm2 boot_set (PyProof.Rows.callWith_type1 (PyProof.Rows.args_cons (thn (ha.run pins z σ H _ I h) fun v z1 ⟨x, H1, I1, r1, q1⟩ => PyProof.Rows.args_nil ?_) na) na rfl))
  obtain ⟨l, xs, rfl, hq, hl, q1⟩ := q1
  cases r1
  obtain ⟨its, r, pl, hz⟩ := I1.list hq
  have len : xs.length = its.toArray.size := by rw [List.size_toArray, ← r.length, List.length_map]
  refine call_setStrs (I1.ok.hd cool) pl.isList (by simpa using strsAre_of r) (by unfold scanBound; omega) fun h' tk held keep => PyProof.Rows.args_nil ?_
  obtain ⟨ob, es, ep, t, gt, hex, hd, _, _, _, hf, hn⟩ := held
  have I2 : Inv X pins σ H1 { z1 with heap := h', toks := tk } := I1.kept fun b o e => keep b o (Heap.lt_size e) e
  have ml := met_len xs xs.length
  exact call_len_set gt hex hd hf (by rw [hn] <;> omega) ⟨.int ((met xs xs.length).length : Nat), H1, I2.tok _, ⟨_, by rw [hn]⟩, q1⟩
end Sl

set_option Elab.async false
set_option linter.all false
set_option maxRecDepth 100000
set_option maxHeartbeats 400000
namespace Sl
open PySem PySem.Spec PyProof.Rows L2
def topT (i : Nat) : Stmt := PySem.Challenge.pw_sharedlets_k01_terms_made.main.body.getD i (.Pass ⟨0, 0, 0, 0⟩)
abbrev sInn : Stmt := topT 5
abbrev sName : Stmt := topT 13
abbrev sDefs : Stmt := topT 14
abbrev sBuilt : Stmt := topT 15
abbrev sOpen : Stmt := topT 16
theorem scInn : FnScope ["part", "_", "term"] ["part"] (defScope sInn) := ⟨rfl, rfl, rfl, by decide +kernel, rfl, by decide +kernel, by decide +kernel⟩
theorem scName : FnScope ["value"] ["value"] (defScope sName) := ⟨rfl, rfl, rfl, by decide +kernel, rfl, by decide +kernel, by decide +kernel⟩
theorem scDefs : FnScope ["value", "pair", "name", "_"] ["value"] (defScope sDefs) := ⟨rfl, rfl, rfl, by decide +kernel, rfl, by decide +kernel, by decide +kernel⟩
theorem scBuilt : FnScope ["value"] ["value"] (defScope sBuilt) := ⟨rfl, rfl, rfl, by decide +kernel, rfl, by decide +kernel, by decide +kernel⟩
/-- built-ins that the module leaves alone -/
structure Bt (mg : Str → Option Value) : Prop where
  isi : mg "isinstance" = none
  str : mg "str" = none
  tuple : mg "tuple" = none
  dict : mg "dict" = none
  len : mg "len" = none
  all : mg "all" = none
  set : mg "set" = none
  range : mg "range" = none
  sorted : mg "sorted" = none
  list : mg "list" = none
  int : mg "int" = none
  abs : mg "abs" = none
  max : mg "max" = none
  min : mg "min" = none
  repr : mg "repr" = none
  zip : mg "zip" = none
  enum : mg "enumerate" = none
def signs : List V := [.str "fun", .str "let", .str "in"]
theorem isA_str (d : D) : isA "str" d = match d with | .str _ => true | _ => false := by
  cases d
  · exact (by decide +kernel : isT "NoneType" "str" = false)
  · exact (by decide +kernel : isT "bool" "str" = false)
  · exact (by decide +kernel : isT "int" "str" = false)
  · exact (by decide +kernel : isT "str" "str" = true)
  · exact (by decide +kernel : isT "tuple" "str" = false)
  · exact (by decide +kernel : isT "list" "str" = false)
  · exact (by decide +kernel : isT "dict" "str" = false)
theorem bfalse {b : Bool} (h : ¬ b = true) : b = false := by
  cases b
  · rfl
  · exact absurd rfl h
theorem inV_signs (x : Str) : inV (.str x) signs = (x == "fun" || x == "let" || x == "in") := by
  have e : ∀ y : Str, eqV (.str y) (.str x) = (x == y) := fun y => by
    show (y == x) = (x == y)
    by_cases h : x = y
    · rw [h]
    · rw [beq_eq_false_iff_ne.mpr h, beq_eq_false_iff_ne.mpr fun z => h z.symm]
  unfold inV signs
  simp only [List.any_cons, List.any_nil, e, Bool.or_false, Bool.or_assoc]
section
variable {P : Program} {w : World} {K : PySem.W.Frag} {mg : Str → Option Value} {base : Heap}
/-- what the module's top holds -/
structure Tops (K : PySem.W.Frag) (mg : Str → Option Value) : Prop where
  parts : ∃ t, mg "MAX_PARTS" = some (.int 500 t)
  levels : ∃ t, mg "MAX_LEVELS" = some (.int 120 t)
  letters : ∃ t, mg "MAX_LETTERS" = some (.int 8 t)
  terms : ∃ t, mg "MAX_TERMS" = some (.int 3 t)
  defs : ∃ t, mg "MAX_DEFINITIONS" = some (.int 100 t)
  sw : ∃ a, mg "SIGN_WORDS" = some (.ref a) ∧ ∀ H : Hp, SqT K H a signs
def spName (K : PySem.W.Frag) : Sp := fun vs H Q _ => ∃ v d, vs = [v] ∧ Rdd K H v d ∧ d.small = true ∧ Q (.bl d.isName) H
theorem ok_name {f : Addr} {fd : FuncData} (F : Fun K "is_name" "is_name" sName f fd) (T : Tops K mg) (B : Bt mg) : FnOk P w K mg base CX0 1 f fd ["value"] (spName K) := by
  refine F.ok scName (fun vs H Q E h => ?_) (fun cdv A outer s H vs Q E hr h => ?_)
  · obtain ⟨v, d, rfl, _⟩ := h
    rfl
  · obtain ⟨v, d, rfl, hv, hz, q⟩ := h
    obtain ⟨t8, g8⟩ := T.letters
    obtain ⟨aS, gS, hS⟩ := T.sw
    refine ⟨_, (pss_cons (ps_if (PW.pt (pw_or (pt_not (pt_val (pe_callB call_isi (by rfl) B.isi (by decide +kernel) (pa_cons (pv 0) (pa_cons (pe_bltn (v := .ty "str") (by rfl) B.str (by decide +kernel) rfl) pa_nil)))))
          (pw_or1 (pt_not (pt_chain op_le op_le pe_int (pe_callB call_len_str (by rfl) B.len PySem.boot_len (pa_cons (pv 0) pa_nil)) (pe_glob (v := .int 8) (by rfl) g8 ⟨_, rfl⟩))))))
        (pss_one (ps_ret pe_bl)) pss_nil)
      (pss_one (ps_ret (pe_and (pe_m0 PySem.F.slot_str_isascii PySem.F.type_str_isascii mt_isascii (pv 0)) (pe_and (pe_m0 PySem.F.slot_str_isalpha PySem.F.type_str_isalpha mt_isalpha (pv 0)) (pe_and (pe_m0 PySem.F.slot_str_islower PySem.F.type_str_islower mt_islower (pv 0))
        (pe_one (pe_cmpR op_notIn_seq (pv 0) (pe_glob (v := .ref aS) (by rfl) gS rfl) (by rfl))))))))), ?_⟩
    refine ⟨v, rfl, v, .ty "str", _, _, isA "str" d, rfl, .ty _, hv.ty, kit_isA (by decide +kernel), isA "str" d, rfl, ?_⟩
    rw [isA_str]
    cases hv with
    | str x =>
      have hz' : x.length ≤ 1000 := of_decide_eq_true hz
      have sl := sizeLine_eq
      refine iteF ⟨.str x, rfl, x, rfl, by omega, _, _, rfl, rfl, _, rfl, ?_⟩
      have eN : (D.str x).isName = (decide (1 ≤ x.length ∧ x.length ≤ 8) && nmTail x) := rfl
      rw [eN] at q
      refine ite2 (fun e1 => ⟨_, _, rfl, rfl, _, rfl, ite2 (fun e2 => ?_) (fun e2 => ?_)⟩) (fun e1 => ?_)
      · have h2 : ¬ x.length ≤ 8 := fun z => by
          rw [decide_eq_true (show (x.length : Int) ≤ 8 by omega)] at e2
          cases e2
        rw [decide_eq_false (fun z => h2 z.2), Bool.false_and] at q
        exact q
      · have h1 : 1 ≤ x.length := by
          have := of_decide_eq_true e1
          omega
        have h2 : x.length ≤ 8 := by
          by_cases h : x.length ≤ 8
          · exact h
          · rw [decide_eq_false (show ¬ (x.length : Int) ≤ 8 by omega)] at e2
            exact absurd rfl e2
        rw [decide_eq_true ⟨h1, h2⟩, Bool.true_and] at q
        unfold nmTail at q
        refine ⟨.str x, rfl, ⟨x, rfl⟩, x, rfl, rfl, trivial, _, rfl, ite2 (fun a1 => ?_) (fun a1 => ?_)⟩
        · rw [a1, Bool.true_and] at q
          refine ⟨.str x, rfl, ⟨x, rfl⟩, x, rfl, rfl, trivial, _, rfl, ite2 (fun a2 => ?_) (fun a2 => ?_)⟩
          · rw [a2, Bool.true_and] at q
            refine ⟨.str x, rfl, ⟨x, rfl⟩, x, rfl, rfl, trivial, _, rfl, ite2 (fun a3 => ?_) (fun a3 => ?_)⟩
            · rw [a3, Bool.true_and] at q
              refine ⟨.str x, rfl, aS, signs, rfl, .inr (hS H), rfl, rfl, ?_⟩
              rw [if_pos rfl, inV_signs]
              exact q
            · rw [bfalse a3, Bool.false_and] at q
              exact q
          · rw [bfalse a2, Bool.false_and] at q
            exact q
        · rw [bfalse a1, Bool.false_and] at q
          exact q
      · have h1 : ¬ 1 ≤ x.length := fun z => e1 (decide_eq_true (show (1 : Int) ≤ x.length by omega))
        rw [decide_eq_false (fun z => h1 z.1), Bool.false_and] at q
        exact ⟨_, rfl, iteT q⟩
    | _ => exact iteT q
end
end Sl

set_option Elab.async false
set_option linter.all false
set_option maxRecDepth 100000
set_option maxHeartbeats 400000
namespace Sl
open PySem PySem.Spec PyProof.Rows L2
theorem RddAll.at {K : PySem.W.Frag} {H : Hp} {vs : List V} {ds : List D} {i : Nat} {d : D} (h : RddAll K H vs ds) (hd : ds[i]? = some d) : ∃ v, vs[i]? = some v ∧ Rdd K H v d := by
  have hi : i < ds.length := (List.getElem?_eq_some_iff.mp hd).1
  have hl := h.length
  have e : vs[i]? = some (vs[i]'(by omega)) := List.getElem?_eq_getElem (by omega)
  obtain ⟨d2, h2, r⟩ := h.get e
  rw [hd] at h2
  cases h2
  exact ⟨_, e, r⟩
theorem two_of {α : Type} {xs : List α} (h : xs.length = 2) : ∃ x y, xs = [x, y] := by
  match xs, h with
  | [x, y], _ => exact ⟨x, y, rfl⟩
theorem three_of {α : Type} {xs : List α} (h : xs.length = 3) : ∃ x y z, xs = [x, y, z] := by
  match xs, h with
  | [x, y, z], _ => exact ⟨x, y, z, rfl⟩
theorem RddAll.two {K : PySem.W.Frag} {H : Hp} {x y : V} {ds : List D} (h : RddAll K H [x, y] ds) : ∃ p t, ds = [p, t] ∧ Rdd K H x p ∧ Rdd K H y t := by
  cases h with
  | cons h1 h2 =>
    cases h2 with
    | cons h3 h4 =>
      cases h4
      exact ⟨_, _, rfl, h1, h3⟩
theorem RddAll.pair {K : PySem.W.Frag} {H : Hp} {xs : List V} {p t : D} (h : RddAll K H xs [p, t]) : ∃ x y, xs = [x, y] ∧ Rdd K H x p ∧ Rdd K H y t := by
  cases h with
  | cons h1 h2 =>
    cases h2 with
    | cons h3 h4 =>
      cases h4
      exact ⟨_, _, rfl, h1, h3⟩
theorem RddAll.trip {K : PySem.W.Frag} {H : Hp} {xs : List V} {p t u : D} (h : RddAll K H xs [p, t, u]) : ∃ x y z, xs = [x, y, z] ∧ Rdd K H x p ∧ Rdd K H y t ∧ Rdd K H z u := by
  cases h with
  | cons h1 h2 =>
    cases h2 with
    | cons h3 h4 =>
      cases h4 with
      | cons h5 h6 =>
        cases h6
        exact ⟨_, _, _, rfl, h1, h3, h5⟩
theorem Rdd.tupd' {K : PySem.W.Frag} {H : Hp} {v : V} {ds : List D} (h : Rdd K H v (.tup ds)) : ∃ a xs, v = .ref a ∧ SqT K H a xs ∧ RddAll K H xs ds ∧ ds.length ≤ 100000 := by
  cases h with
  | tup hs ha hz => exact ⟨_, _, rfl, hs, ha, hz⟩
theorem Rdd.strd {K : PySem.W.Frag} {H : Hp} {v : V} {x : Str} (h : Rdd K H v (.str x)) : v = .str x := by
  cases h
  rfl
structure Fns (K : PySem.W.Frag) (mg : Str → Option Value) (fN fD fB fI : Addr) (fdN fdD fdB fdI : FuncData) : Prop where
  FN : Fun K "is_name" "is_name" sName fN fdN
  bN : Binds K fdN ["value"] []
  gN : mg "is_name" = some (.ref fN)
  FD : Fun K "_are_definitions" "_are_definitions" sDefs fD fdD
  bD : Binds K fdD ["value"] []
  gD : mg "_are_definitions" = some (.ref fD)
  FB : Fun K "_is_built" "_is_built" sBuilt fB fdB
  bB : Binds K fdB ["value"] []
  gB : mg "_is_built" = some (.ref fB)
  FI : Fun K "terms_in" "terms_in" sInn fI fdI
  bI : Binds K fdI ["part"] []
  gI : mg "terms_in" = some (.ref fI)
theorem pair_of {d : D} (h : d.pair = true) : ∃ x b, d = .tup [.str x, b] ∧ nmOk x = true := by
  unfold D.pair at h
  split at h
  · rename_i a b
    unfold D.isName at h
    split at h
    · rename_i x
      exact ⟨x, b, rfl, h⟩
    · cases h
  · cases h
section
variable {P : Program} {w : World} {K : PySem.W.Frag} {mg : Str → Option Value} {base : Heap} {fN fD fB fI : Addr} {fdN fdD fdB fdI : FuncData}
def spDefs (K : PySem.W.Frag) : Sp := fun vs H Q _ => ∃ v d, vs = [v] ∧ Rdd K H v d ∧ d.smalls = true ∧ ∀ H', Same H H' → Q (.bl d.defs) H'
theorem fm_fst : ∀ l : List D, (l.map fun d => some (V.str d.fst)).filterMap id = (l.map D.fst).map V.str
  | [] => rfl
  | d :: ds => by
    rw [List.map_cons, List.map_cons, List.map_cons, ← fm_fst ds]
    rfl
theorem ok_defs (T : Fns K mg fN fD fB fI fdN fdD fdB fdI) (U : Tops K mg) (B : Bt mg) : FnOk P w K mg base CX0 2 fD fdD ["value"] (spDefs K) := by
  have GN : FnOk P w K mg base CX0 1 fN fdN ["value"] (spName K) := ok_name T.FN U B
  refine T.FD.ok scDefs (fun vs H Q E h => ?_) (fun cdv A outer s H vs Q E hr h => ?_)
  · obtain ⟨v, d, rfl, _⟩ := h
    rfl
  · obtain ⟨v, d, rfl, hv, hz, q⟩ := h
    obtain ⟨t100, g100⟩ := U.defs
    refine ⟨_, (pss_cons (ps_if (PW.pt (pw_or (pt_not (pt_val (pe_callB call_isi (by rfl) B.isi (by decide +kernel) (pa_cons (pv 0) (pa_cons (pe_bltn (v := .ty "tuple") (by rfl) B.tuple (by decide +kernel) rfl) pa_nil)))))
          (pw_or1 (pt_not (pt_chain op_le op_le pe_int (pe_callB call_len_seq (by rfl) B.len PySem.boot_len (pa_cons (pv 0) pa_nil)) (pe_glob (v := .int 100) (by rfl) g100 ⟨_, rfl⟩))))))
        (pss_one (ps_ret pe_bl)) pss_nil)
      (pss_cons (ps_for PassesOwn.never rfl (pi_tup (pv 0)) (pg_name (i := 1) scDefs.nd rfl (Or.inl rfl))
        (pss_one (ps_if (PW.pt (pw_or (pt_not (pt_val (pe_callB call_isi (by rfl) B.isi (by decide +kernel) (pa_cons (pv 1) (pa_cons (pe_bltn (v := .ty "tuple") (by rfl) B.tuple (by decide +kernel) rfl) pa_nil)))))
            (pw_or (pt_cmpR op_ne (pe_callB call_len_seq (by rfl) B.len PySem.boot_len (pa_cons (pv 1) pa_nil)) pe_int (nomark _))
            (pw_or1 (pt_not (pt_val (pe_call GN hr (by rfl) T.gN T.FN.kp T.bN .nil pass0 (pa_cons (pe_ix ix_tup (pv 1) pe_int (fun _ _ => rfl)) pa_nil))))))))
          (pss_one (ps_ret pe_bl)) pss_nil)))
      (pss_one (ps_ret (pe_cmpR op_eq (pe_lenStrs (by rfl) B.len (by rfl) B.set (pe_lc (own := [("name", 2), ("_", 3)]) (g := gTup K 2 (gCons (gName 2) (gCons (gName 3) gNil))) (tt := tYes) rfl scDefs.nd (pi_tup (pv 0)) (blkOk_by (own := [("name", 2), ("_", 3)]) (N := ["value", "pair", "name", "_"]) (sc := defScope sDefs) (by decide +kernel))
          (fun _ _ _ _ _ => pg_tup rfl (pgs_cons (pg_name (i := 2) scDefs.nd rfl (Or.inl rfl)) (pgs_cons (pg_name (i := 3) scDefs.nd rfl (Or.inl rfl)) pgs_nil))) (fun _ _ _ _ _ => pts_nil)
          (fun _ _ _ _ _ => pv 2))) (pe_callB call_len_seq (by rfl) B.len PySem.boot_len (pa_cons (pv 0) pa_nil)) (nomark _)))))), ?_⟩
    refine ⟨v, rfl, v, .ty "tuple", _, _, isA "tuple" d, rfl, .ty _, hv.ty, kit_isA (by decide +kernel), isA "tuple" d, rfl, ?_⟩
    rw [isA_tuple]
    cases hv with
    | @tup a xs ds hs ha hzz =>
      have hl := ha.length
      have hz1 : ds.length ≤ 1000 ∧ ∀ d ∈ ds, d.pairS = true := by
        have z : (decide (ds.length ≤ 1000) && ds.all D.pairS) = true := hz
        simp only [Bool.and_eq_true, decide_eq_true_eq, List.all_eq_true] at z
        exact z
      have eD : (D.tup ds).defs = (decide (1 ≤ ds.length ∧ ds.length ≤ 100) && (ds.all D.pair && decide (ds.map D.fst).Nodup)) := rfl
      rw [eD] at q
      refine iteF ⟨.ref a, rfl, a, xs, rfl, .inr hs, _, _, rfl, rfl, _, rfl, ite2 (fun e1 => ⟨_, _, rfl, rfl, _, rfl, ite2 (fun e2 => ?_) (fun e2 => ?_)⟩) (fun e1 => ?_)⟩
      · have h2 : ¬ ds.length ≤ 100 := fun z => by
          rw [decide_eq_true (show (xs.length : Int) ≤ 100 by omega)] at e2
          cases e2
        rw [decide_eq_false (fun z => h2 z.2), Bool.false_and] at q
        exact q _ (Same.refl _)
      · have h1 : 1 ≤ ds.length := by
          have := of_decide_eq_true e1
          omega
        have h2 : ds.length ≤ 100 := by
          by_cases h : ds.length ≤ 100
          · exact h
          · rw [decide_eq_false (show ¬ (xs.length : Int) ≤ 100 by omega)] at e2
            exact absurd rfl e2
        rw [decide_eq_true ⟨h1, h2⟩, Bool.true_and] at q
        refine ⟨.ref a, rfl, a, rfl, ⟨_, hs⟩, for_tup (K := K) (a := a) (xs := xs) (fun i σ' H' => ∃ y, σ' = [some (.ref a), y, none, none] ∧ H' = H ∧ ∀ j, j < i → ∀ d, ds[j]? = some d → d.pair = true) ⟨_, rfl, rfl, fun j hj => absurd hj (by omega)⟩ ?_ ?_ ?_⟩
        · rintro i σ' H' _ ⟨y, rfl, rfl, _⟩
          exact hs
        · rintro i x σ' H' hx ⟨y, rfl, rfl, ok⟩
          obtain ⟨d, hd, rd⟩ := ha.get hx
          have ps := hz1.2 d (List.mem_of_getElem? hd)
          have bad : d.pair = false → Q (.bl false) H' := fun e => by
            have z : ds.all D.pair = false := Bool.eq_false_iff.mpr fun t => by
              have := List.all_eq_true.mp t d (List.mem_of_getElem? hd)
              rw [e] at this
              cases this
            rw [z, Bool.false_and] at q
            exact q _ (Same.refl _)
          refine ⟨x, rfl, x, .ty "tuple", _, _, isA "tuple" d, rfl, .ty _, rd.ty, kit_isA (by decide +kernel), isA "tuple" d, rfl, ?_⟩
          rw [isA_tuple]
          cases rd with
          | @tup b ys es hb hc hw =>
            have hl2 := hc.length
            refine iteF ⟨.ref b, rfl, b, ys, rfl, .inr hb, rfl, _, rfl, ite2 (fun e3 => ?_) (fun e3 => ?_)⟩
            · refine bad ?_
              match es, hl2, e3 with
              | [], _, _ => rfl
              | [_], _, _ => rfl
              | [_, _], hl2, e3 =>
                rw [hl2] at e3
                cases e3
              | _ :: _ :: _ :: _, _, _ => rfl
            · have e4 : ys.length = 2 := by
                by_cases h : ys.length = 2
                · exact h
                · refine absurd ?_ e3
                  show (!decide (V.int (ys.length : Nat) = V.int 2)) = true
                  rw [decide_eq_false fun z => h (by
                    have := V.int.inj z
                    omega)]
                  rfl
              obtain ⟨u, t, rfl⟩ := two_of e4
              obtain ⟨p, r, rfl, rp, rr⟩ := hc.two
              refine ⟨.ref b, rfl, b, _, 0, u, rfl, rfl, hb, atI_nat (j := 0) rfl, u, p, rfl, rp, ps, _, rfl, ite2 (fun e5 => ?_) (fun e5 => ?_)⟩
              · refine bad ?_
                show p.isName = false
                cases h : p.isName
                · rfl
                · rw [h] at e5
                  cases e5
              · refine ⟨_, rfl, rfl, fun j hj d2 hd2 => ?_⟩
                rcases Nat.lt_succ_iff_lt_or_eq.mp hj with hj | rfl
                · exact ok j hj d2 hd2
                · rw [hd] at hd2
                  cases hd2
                  show p.isName = true
                  cases h : p.isName
                  · rw [h] at e5
                    exact absurd rfl e5
                  · rfl
          | _ => exact iteT (bad rfl)
        · rintro σ' H' ⟨y, rfl, rfl, ok⟩
          have all : ds.all D.pair = true := List.all_eq_true.mpr fun d hd => by
            obtain ⟨j, hj, e⟩ := List.getElem_of_mem hd
            exact ok j (by omega) d (by rw [List.getElem?_eq_getElem hj, e])
          rw [all, Bool.true_and] at q
          refine ⟨_, rfl, a, rfl, ⟨_, hs⟩, fun D0 nD => lcT (ds.map fun d => some (V.str d.fst)) (by rw [List.length_map, hl]) (by omega) hs nD ?_ ?_⟩
          · intro i x H2 Q2 Z2 hx sm hQ _
            obtain ⟨d, hd, rd⟩ := ha.get hx
            obtain ⟨z, b, rfl, _⟩ := pair_of (List.all_eq_true.mp all d (List.mem_of_getElem? hd))
            obtain ⟨c, ys, rfl, hc, hy, _⟩ := (Rdd.ex (.same sm) _ rd).tupd'
            obtain ⟨u, t, rfl, ru, rt⟩ := hy.pair
            cases ru
            refine ⟨c, _, rfl, hc, rfl, _, _, rfl, _, _, rfl, rfl, rfl, ?_⟩
            refine iteT (B := Z2 H2) ⟨_, rfl, hQ _ _ ?_ (Same.refl _)⟩
            rw [List.getElem?_map, hd]
            rfl
          · intro H2 sm hl2
            refine ⟨D0, ds.map D.fst, rfl, .inl (.inl ?_), by rw [List.length_map]; omega, .ref a, rfl, a, xs, rfl, .inr ((Ex.same sm).tup hs), rfl, ?_⟩
            · rw [hl2, fm_fst]
            · have z : decide (V.int ((met (ds.map D.fst) (ds.map D.fst).length).length : Nat) = V.int (xs.length : Nat)) = decide (ds.map D.fst).Nodup := by
                rw [← met_full]
                refine decide_eq_decide.mpr ⟨fun t => ?_, fun t => ?_⟩
                · have := V.int.inj t
                  rw [List.length_map] at *
                  omega
                · rw [t, List.length_map, hl]
              rw [z]
              exact q _ sm
      · have h1 : ¬ 1 ≤ ds.length := fun z => e1 (decide_eq_true (show (1 : Int) ≤ xs.length by omega))
        rw [decide_eq_false (fun z => h1 z.1), Bool.false_and] at q
        exact ⟨_, rfl, iteT (q _ (Same.refl _))⟩
    | str x =>
      refine iteT (q _ (Same.refl _))
    | _ => exact iteT (q _ (Same.refl _))
end
end Sl

set_option Elab.async false
set_option linter.all false
set_option maxRecDepth 100000
set_option maxHeartbeats 400000
namespace Sl
open PySem PySem.Spec PyProof.Rows L2
theorem str_dec (x y : Str) : decide (V.str x = V.str y) = decide (x = y) := decide_eq_decide.mpr ⟨fun h => V.str.inj h, fun h => by rw [h]⟩
theorem int_dec (x y : Int) : decide (V.int x = V.int y) = decide (x = y) := decide_eq_decide.mpr ⟨fun h => V.int.inj h, fun h => by rw [h]⟩
theorem in23 (n : Nat) : inV (.int n) [V.int 2, .int 3] = decide (n = 2 ∨ n = 3) := by
  have e : ∀ m : Int, eqV (.int m) (.int n) = decide ((n : Int) = m) := fun m => by
    show (m == (n : Int)) = _
    by_cases h : (n : Int) = m
    · rw [decide_eq_true h, h]
      exact beq_self_eq_true m
    · rw [decide_eq_false h]
      exact beq_eq_false_iff_ne.mpr fun z => h z.symm
  unfold inV
  simp only [List.any_cons, List.any_nil, e, Bool.or_false]
  by_cases h2 : n = 2
  · rw [decide_eq_true (show (n : Int) = 2 by omega), decide_eq_true (Or.inl h2), Bool.true_or]
  · rw [decide_eq_false (show ¬ (n : Int) = 2 by omega), Bool.false_or]
    exact decide_eq_decide.mpr ⟨fun z => .inr (by omega), fun z => by omega⟩
theorem built_not {l : List D} (h : ¬ (l.length = 2 ∨ l.length = 3)) : built (.tup l) = false := by
  unfold built
  split
  · rename_i e
    cases e
    exact absurd (Or.inl rfl) h
  · rename_i e
    cases e
    exact absurd (Or.inr rfl) h
  · rfl
section
variable {P : Program} {w : World} {K : PySem.W.Frag} {mg : Str → Option Value} {base : Heap} {fN fD fB fI : Addr} {fdN fdD fdB fdI : FuncData}
def spBuilt (K : PySem.W.Frag) : Sp := fun vs H Q _ => ∃ v d, vs = [v] ∧ Rdd K H v d ∧ d.hd = true ∧ ∀ H', Same H H' → Q (.bl (built d)) H'
theorem ok_built (T : Fns K mg fN fD fB fI fdN fdD fdB fdI) (U : Tops K mg) (B : Bt mg) : FnOk P w K mg base CX0 3 fB fdB ["value"] (spBuilt K) := by
  have GN : FnOk P w K mg base CX0 1 fN fdN ["value"] (spName K) := ok_name T.FN U B
  have GD : FnOk P w K mg base CX0 2 fD fdD ["value"] (spDefs K) := ok_defs T U B
  refine T.FB.ok scBuilt (fun vs H Q E h => ?_) (fun cdv A outer s H vs Q E hr h => ?_)
  · obtain ⟨v, d, rfl, _⟩ := h
    rfl
  · obtain ⟨v, d, rfl, hv, hz, q⟩ := h
    obtain ⟨t3, g3⟩ := U.terms
    have h1 := hr.mono (by decide : 1 ≤ 2)
    refine ⟨_, (pss_cons (ps_if (PW.pt (pw_or (pt_not (pt_val (pe_callB call_isi (by rfl) B.isi (by decide +kernel) (pa_cons (pv 0) (pa_cons (pe_bltn (v := .ty "tuple") (by rfl) B.tuple (by decide +kernel) rfl) pa_nil)))))
          (pw_or1 (pt_cmpR op_notIn_seq (pe_callB call_len_seq (by rfl) B.len PySem.boot_len (pa_cons (pv 0) pa_nil)) (pe_tup (pa_cons pe_int (pa_cons pe_int pa_nil))) (by rfl)))))
        (pss_one (ps_ret pe_bl)) pss_nil)
      (pss_cons (ps_if (pt_cmpR op_eq (pe_callB call_len_seq (by rfl) B.len PySem.boot_len (pa_cons (pv 0) pa_nil)) pe_int (nomark _))
        (pss_one (ps_ret (pe_and (pe_cmpR op_eq (pe_ix ix_tup (pv 0) pe_int (fun _ _ => rfl)) pe_str (nomark _)) (pe_one (pe_call GN h1 (by rfl) T.gN T.FN.kp T.bN .nil pass0 (pa_cons (pe_ix ix_tup (pv 0) pe_int (fun _ _ => rfl)) pa_nil)))))) pss_nil)
      (pss_cons (ps_if (pt_cmpR op_eq (pe_ix ix_tup (pv 0) pe_int (fun _ _ => rfl)) pe_str (nomark _))
        (pss_one (ps_ret (pe_and (pe_call GN h1 (by rfl) T.gN T.FN.kp T.bN .nil pass0 (pa_cons (pe_ix ix_tup (pv 0) pe_int (fun _ _ => rfl)) pa_nil))
          (pe_and (pe_callB call_isi (by rfl) B.isi (by decide +kernel) (pa_cons (pe_ix ix_tup (pv 0) pe_int (fun _ _ => rfl)) (pa_cons (pe_bltn (v := .ty "tuple") (by rfl) B.tuple (by decide +kernel) rfl) pa_nil)))
          (pe_one (pe_cmpR op_le (pe_callB call_len_seq (by rfl) B.len PySem.boot_len (pa_cons (pe_ix ix_tup (pv 0) pe_int (fun _ _ => rfl)) pa_nil)) (pe_glob (v := .int 3) (by rfl) g3 ⟨_, rfl⟩) (nomark _))))))) pss_nil)
      (pss_cons (ps_if (pt_cmpR op_eq (pe_ix ix_tup (pv 0) pe_int (fun _ _ => rfl)) pe_str (nomark _))
        (pss_one (ps_ret (pe_call GN h1 (by rfl) T.gN T.FN.kp T.bN .nil pass0 (pa_cons (pe_ix ix_tup (pv 0) pe_int (fun _ _ => rfl)) pa_nil)))) pss_nil)
      (pss_one (ps_ret (pe_and (pe_cmpR op_eq (pe_ix ix_tup (pv 0) pe_int (fun _ _ => rfl)) pe_str (nomark _)) (pe_one (pe_call GD hr (by rfl) T.gD T.FD.kp T.bD .nil pass0 (pa_cons (pe_ix ix_tup (pv 0) pe_int (fun _ _ => rfl)) pa_nil)))))))))), ?_⟩
    refine ⟨v, rfl, v, .ty "tuple", _, _, isA "tuple" d, rfl, .ty _, hv.ty, kit_isA (by decide +kernel), isA "tuple" d, rfl, ?_⟩
    rw [isA_tuple]
    cases hv with
    | @tup a xs ds hs ha hzz =>
      have hl := ha.length
      refine iteF ⟨.ref a, rfl, a, xs, rfl, .inr hs, (by show 2 ≤ sizeLine; decide), fun p np => ?_⟩
      have sm := Same.new (o := .tup [V.int 2, .int 3]) np
      have hp : (upd H p (.tup [V.int 2, .int 3])) p = some (.tup [V.int 2, .int 3]) := upd_same
      generalize upd H p (.tup [V.int 2, .int 3]) = H1 at sm hp ⊢
      have hs1 := (Ex.same sm).tup hs
      have ha1 := RddAll.ex (.same sm) ds ha
      refine ⟨p, _, rfl, .inr (SqT.of hp), rfl, rfl, _, rfl, ?_⟩
      rw [if_pos rfl, in23]
      refine ite2 (fun e => ?_) (fun e => ?_)
      · have no : ¬ (ds.length = 2 ∨ ds.length = 3) := fun z => by
          rw [hl, decide_eq_true z] at e
          cases e
        rw [built_not no] at q
        exact q _ sm
      · have yes : ds.length = 2 ∨ ds.length = 3 := by
          by_cases z : ds.length = 2 ∨ ds.length = 3
          · exact z
          · rw [hl, decide_eq_false z] at e
            exact absurd rfl e
        refine ⟨.ref a, rfl, a, xs, rfl, .inr hs1, rfl, _, rfl, ?_⟩
        rcases yes with l2 | l3
        · obtain ⟨d1, d2, rfl⟩ := two_of l2
          obtain ⟨x1, x2, rfl, r1, r2⟩ := ha1.pair
          refine iteT ⟨.ref a, rfl, a, _, 0, x1, rfl, rfl, hs1, atI_nat (j := 0) rfl, ?_⟩
          cases d1 with
          | str s =>
            cases r1
            refine ⟨rfl, _, rfl, ?_⟩
            rw [str_dec]
            have eB : built (.tup [.str s, d2]) = (decide (s = "name") && d2.isName) := rfl
            rw [eB] at q
            refine ite2 (fun e1 => ?_) (fun e1 => ?_)
            · rw [e1, Bool.true_and] at q
              exact ⟨.ref a, rfl, a, _, 1, x2, rfl, rfl, hs1, atI_nat (j := 1) rfl, x2, d2, rfl, r2, hz, q _ sm⟩
            · rw [bfalse e1, Bool.false_and] at q
              exact q _ sm
          | _ => cases hz
        · obtain ⟨d1, d2, d3, rfl⟩ := three_of l3
          obtain ⟨x1, x2, x3, rfl, r1, r2, r3⟩ := ha1.trip
          refine iteF ?_
          cases d1 with
          | str s =>
            cases r1
            have sm2 : d2.small = true := by
              have z : d2.smalls = true := hz
              cases d2 with
              | tup l => rfl
              | _ => exact z
            have eB : built (.tup [.str s, d2, d3]) = built3 s d2 d3 := rfl
            rw [eB] at q
            unfold built3 at q
            refine ⟨.ref a, rfl, a, _, 0, _, rfl, rfl, hs1, atI_nat (j := 0) rfl, rfl, _, rfl, ?_⟩
            rw [str_dec]
            refine ite2 (fun e1 => ?_) (fun e1 => ?_)
            · rw [if_pos (of_decide_eq_true e1)] at q
              refine ⟨.ref a, rfl, a, _, 1, x2, rfl, rfl, hs1, atI_nat (j := 1) rfl, x2, d2, rfl, r2, sm2, _, rfl, ite2 (fun e2 => ?_) (fun e2 => ?_)⟩
              · rw [e2, Bool.true_and] at q
                refine ⟨.ref a, rfl, a, _, 2, x3, rfl, rfl, hs1, atI_nat (j := 2) rfl, x3, .ty "tuple", _, _, isA "tuple" d3, rfl, .ty _, r3.ty, kit_isA (by decide +kernel), isA "tuple" d3, rfl, ?_⟩
                rw [isA_tuple]
                cases r3 with
                | @tup b ys es hb hc hw =>
                  refine iteT ⟨.ref a, rfl, a, _, 2, .ref b, rfl, rfl, hs1, atI_nat (j := 2) rfl, b, ys, rfl, .inr hb, _, _, rfl, rfl, ?_⟩
                  have z : decide ((ys.length : Int) ≤ 3) = (D.tup es).short := by
                    show _ = decide (es.length ≤ 3)
                    rw [← hc.length]
                    exact decide_eq_decide.mpr ⟨fun z => by omega, fun z => by omega⟩
                  dsimp only
                  rw [z]
                  exact q _ sm
                | _ => exact iteF (q _ sm)
              · rw [bfalse e2, Bool.false_and] at q
                exact q _ sm
            · rw [if_neg (fun z => e1 (decide_eq_true z))] at q
              refine ⟨.ref a, rfl, a, _, 0, _, rfl, rfl, hs1, atI_nat (j := 0) rfl, rfl, _, rfl, ?_⟩
              rw [str_dec]
              refine ite2 (fun e2 => ?_) (fun e2 => ?_)
              · rw [if_pos (of_decide_eq_true e2)] at q
                exact ⟨.ref a, rfl, a, _, 1, x2, rfl, rfl, hs1, atI_nat (j := 1) rfl, x2, d2, rfl, r2, sm2, q _ sm⟩
              · rw [if_neg (fun z => e2 (decide_eq_true z))] at q
                refine ⟨.ref a, rfl, a, _, 0, _, rfl, rfl, hs1, atI_nat (j := 0) rfl, rfl, _, rfl, ?_⟩
                rw [str_dec]
                refine ite2 (fun e3 => ?_) (fun e3 => ?_)
                · rw [e3, Bool.true_and] at q
                  exact ⟨.ref a, rfl, a, _, 1, x2, rfl, rfl, hs1, atI_nat (j := 1) rfl, x2, d2, rfl, r2, hz, fun H' s' => q _ (sm.trans s')⟩
                · rw [bfalse e3, Bool.false_and] at q
                  exact q _ sm
          | _ => cases hz
    | _ => exact iteT (q _ (Same.refl _))
end
end Sl

set_option Elab.async false
set_option linter.all false
set_option maxRecDepth 100000
set_option maxHeartbeats 400000
namespace Sl
open PySem PySem.Spec PyProof.Rows L2
theorem fm_snd : ∀ l : List V, (l.map some).filterMap id = l
  | [] => rfl
  | d :: ds => by
    rw [List.map_cons]
    show d :: (ds.map some).filterMap id = _
    rw [fm_snd ds]
theorem nwn : ¬ (("word" : Str)) = "name" := by decide +kernel
theorem nfn : ¬ (("fun" : Str)) = "name" := by decide +kernel
theorem nln : ¬ (("let" : Str)) = "name" := by decide +kernel
theorem nwc : ¬ (("word" : Str)) = "call" := by decide +kernel
theorem nfc : ¬ (("fun" : Str)) = "call" := by decide +kernel
theorem nlc : ¬ (("let" : Str)) = "call" := by decide +kernel
theorem RddAll.app {K : PySem.W.Frag} {H : Hp} : ∀ {xs ys : List V} {ds es : List D}, RddAll K H xs ds → RddAll K H ys es → RddAll K H (xs ++ ys) (ds ++ es)
  | _, _, _, _, .nil, h => h
  | _, _, _, _, .cons a b, h => .cons a (b.app h)
/-- the values of the definitions' terms -/
theorem RddAll.snds {K : PySem.W.Frag} {H : Hp} : ∀ {ps : List (Str × D)} {xs : List V}, RddAll K H xs (mkPs ps) → ∃ us : List V, RddAll K H us (ps.map (·.2)) ∧ us.length = xs.length ∧
    ∀ (i : Nat) (x : V), xs[i]? = some x → ∃ (a : Addr) (y : Str) (u : V), x = V.ref a ∧ SqT K H a [V.str y, u] ∧ us[i]? = some u ∧ (ps.map (·.1))[i]? = some y
  | [], _, h => by
    cases h
    exact ⟨[], .nil, rfl, fun i x e => by simp at e⟩
  | p :: ps, _, h => by
    cases h with
    | @cons v vs d ds h1 h2 =>
      obtain ⟨us, r, l, at'⟩ := RddAll.snds (ps := ps) h2
      obtain ⟨a, ys, rfl, hs, hy, _⟩ := h1.tupd'
      obtain ⟨x, u, rfl, rx, ru⟩ := hy.pair
      cases rx
      refine ⟨u :: us, .cons ru r, by rw [List.length_cons, List.length_cons, l], fun i x e => ?_⟩
      cases i with
      | zero =>
        have e' := Option.some.inj e
        subst e'
        exact ⟨a, p.1, u, rfl, hs, rfl, rfl⟩
      | succ i => exact at' i x e
section
variable {P : Program} {w : World} {K : PySem.W.Frag} {mg : Str → Option Value} {base : Heap} {fN fD fB fI : Addr} {fdN fdD fdB fdI : FuncData}
def spInn (K : PySem.W.Frag) : Sp := fun vs H Q _ => ∃ v d, vs = [v] ∧ Rdd K H v d ∧ built d = true ∧ ∀ r H', Same H H' → Rdd K H' r (.tup (inn d)) → Q r H'
theorem ok_inn (T : Fns K mg fN fD fB fI fdN fdD fdB fdI) (B : Bt mg) : FnOk P w K mg base CX0 1 fI fdI ["part"] (spInn K) := by
  refine T.FI.ok scInn (fun vs H Q E h => ?_) (fun cdv A outer s H vs Q E hr h => ?_)
  · obtain ⟨v, d, rfl, _⟩ := h
    rfl
  · obtain ⟨v, d, rfl, hv, hb, q⟩ := h
    refine ⟨_, (pss_cons (ps_if (PW.pt (pw_or (pt_cmpR op_eq (pe_ix ix_tup (pv 0) pe_int (fun _ _ => rfl)) pe_str (nomark _)) (pw_or1 (pt_cmpR op_eq (pe_ix ix_tup (pv 0) pe_int (fun _ _ => rfl)) pe_str (nomark _)))))
        (pss_one (ps_ret (pe_tup pa_nil))) pss_nil)
      (pss_cons (ps_if (pt_cmpR op_eq (pe_ix ix_tup (pv 0) pe_int (fun _ _ => rfl)) pe_str (nomark _))
        (pss_one (ps_ret (pe_ix ix_tup (pv 0) pe_int (fun _ _ => rfl)))) pss_nil)
      (pss_cons (ps_if (pt_cmpR op_eq (pe_ix ix_tup (pv 0) pe_int (fun _ _ => rfl)) pe_str (nomark _))
        (pss_one (ps_ret (pe_tup (pa_cons (pe_ix ix_tup (pv 0) pe_int (fun _ _ => rfl)) pa_nil)))) pss_nil)
      (pss_one (ps_ret (pe_op op_catT (pe_callTy call_tuple_of (by rfl) B.tuple (by decide +kernel) (pa_cons
          (pe_lc (own := [("_", 1), ("term", 2)]) (g := gTup K 2 (gCons (gName 1) (gCons (gName 2) gNil))) (tt := tYes) rfl scInn.nd (pi_tup (pe_ix ix_tup (pv 0) pe_int (fun _ _ => rfl))) (blkOk_by (own := [("_", 1), ("term", 2)]) (N := ["part", "_", "term"]) (sc := defScope sInn) (by decide +kernel))
            (fun _ _ _ _ _ => pg_tup rfl (pgs_cons (pg_name (i := 1) scInn.nd rfl (Or.inl rfl)) (pgs_cons (pg_name (i := 2) scInn.nd rfl (Or.inl rfl)) pgs_nil))) (fun _ _ _ _ _ => pts_nil)
            (fun _ _ _ _ _ => pv 2)) pa_nil)) (pe_tup (pa_cons (pe_ix ix_tup (pv 0) pe_int (fun _ _ => rfl)) pa_nil)))))))), ?_⟩
    rcases built_cases hb with ⟨x, rfl, _⟩ | ⟨x, l, rfl, _, hl⟩ | ⟨x, b, rfl, _⟩ | ⟨ps, b, rfl, hp⟩
    · obtain ⟨a, xs, rfl, hs, hx, _⟩ := hv.tupd'
      obtain ⟨x1, x2, rfl, r1, r2⟩ := hx.pair
      cases r1
      refine ⟨.ref a, rfl, a, _, 0, _, rfl, rfl, hs, atI_nat (j := 0) rfl, rfl, _, rfl, ?_⟩
      rw [str_dec, decide_eq_true rfl]
      refine iteT ⟨(by show 0 ≤ sizeLine; decide), fun p np => ?_⟩
      exact q _ _ (Same.new np) (.tup (SqT.of upd_same) .nil (Nat.zero_le _))
    · obtain ⟨a, xs, rfl, hs, hx, _⟩ := hv.tupd'
      obtain ⟨x1, x2, x3, rfl, r1, r2, r3⟩ := hx.trip
      cases r1
      refine ⟨.ref a, rfl, a, _, 0, _, rfl, rfl, hs, atI_nat (j := 0) rfl, rfl, _, rfl, ?_⟩
      rw [str_dec, decide_eq_false nwn]
      refine iteF ⟨.ref a, rfl, a, _, 0, _, rfl, rfl, hs, atI_nat (j := 0) rfl, rfl, _, rfl, ?_⟩
      rw [str_dec, decide_eq_false nwc]
      refine iteF ⟨.ref a, rfl, a, _, 0, _, rfl, rfl, hs, atI_nat (j := 0) rfl, rfl, _, rfl, ?_⟩
      rw [str_dec, decide_eq_true rfl]
      refine iteT ⟨.ref a, rfl, a, _, 2, _, rfl, rfl, hs, atI_nat (j := 2) rfl, q _ _ (Same.refl _) ?_⟩
      rw [inn_W]
      exact r3
    · obtain ⟨a, xs, rfl, hs, hx, _⟩ := hv.tupd'
      obtain ⟨x1, x2, x3, rfl, r1, r2, r3⟩ := hx.trip
      cases r1
      refine ⟨.ref a, rfl, a, _, 0, _, rfl, rfl, hs, atI_nat (j := 0) rfl, rfl, _, rfl, ?_⟩
      rw [str_dec, decide_eq_false nfn]
      refine iteF ⟨.ref a, rfl, a, _, 0, _, rfl, rfl, hs, atI_nat (j := 0) rfl, rfl, _, rfl, ?_⟩
      rw [str_dec, decide_eq_false nfc]
      refine iteF ⟨.ref a, rfl, a, _, 0, _, rfl, rfl, hs, atI_nat (j := 0) rfl, rfl, _, rfl, ?_⟩
      rw [str_dec, decide_eq_false ne_wf]
      refine iteF ⟨.ref a, rfl, a, _, 0, _, rfl, rfl, hs, atI_nat (j := 0) rfl, rfl, _, rfl, ?_⟩
      rw [str_dec, decide_eq_true rfl]
      refine iteT ⟨.ref a, rfl, a, _, 2, _, rfl, rfl, hs, atI_nat (j := 2) rfl, (by show 1 ≤ sizeLine; decide), fun p np => ?_⟩
      have sm := Same.new (o := .tup [x3]) np
      rw [inn_F] at q
      exact q _ _ sm (.tup (SqT.of upd_same) (.cons (Rdd.ex (.same sm) _ r3) .nil) (by simp))
    · obtain ⟨a, xs, rfl, hs, hx, _⟩ := hv.tupd'
      obtain ⟨x1, x2, x3, rfl, r1, r2, r3⟩ := hx.trip
      cases r1
      obtain ⟨c, ys, rfl, hc, hy, hyz⟩ := r2.tupd'
      refine ⟨.ref a, rfl, a, _, 0, _, rfl, rfl, hs, atI_nat (j := 0) rfl, rfl, _, rfl, ?_⟩
      rw [str_dec, decide_eq_false nln]
      refine iteF ⟨.ref a, rfl, a, _, 0, _, rfl, rfl, hs, atI_nat (j := 0) rfl, rfl, _, rfl, ?_⟩
      rw [str_dec, decide_eq_false nlc]
      refine iteF ⟨.ref a, rfl, a, _, 0, _, rfl, rfl, hs, atI_nat (j := 0) rfl, rfl, _, rfl, ?_⟩
      rw [str_dec, decide_eq_false ne_wl]
      refine iteF ⟨.ref a, rfl, a, _, 0, _, rfl, rfl, hs, atI_nat (j := 0) rfl, rfl, _, rfl, ?_⟩
      rw [str_dec, decide_eq_false ne_fl]
      refine iteF ?_
      obtain ⟨us, ru, lu, at'⟩ := hy.snds
      have ly := hy.length
      have lp : (mkPs ps).length = ps.length := List.length_map ..
      have sl := sizeLine_eq
      have hp1 := hp.1
      have hp2 := hp.2.1
      refine ⟨.ref a, rfl, a, _, 1, .ref c, rfl, rfl, hs, atI_nat (j := 1) rfl, c, rfl, ⟨_, hc⟩, fun D0 nD => lcT (us.map some) (by rw [List.length_map, lu]) (by omega) hc nD ?_ ?_⟩
      · intro i x H2 Q2 Z2 hx sm hQ _
        obtain ⟨e, y, u, rfl, he, hu, _⟩ := at' i x hx
        refine ⟨e, _, rfl, (Ex.same sm).tup he, rfl, _, _, rfl, _, _, rfl, rfl, rfl, ?_⟩
        refine iteT (B := Z2 H2) ⟨_, rfl, hQ _ _ ?_ (Same.refl _)⟩
        rw [List.getElem?_map, hu]
        rfl
      · intro H2 sm hl2
        rw [fm_snd] at hl2
        refine ⟨D0, us, rfl, .inl ⟨SqL.of hl2, fun p1 n1 => ?_⟩⟩
        have sm1 := Same.new (o := .tup us) n1
        have hp1' : (upd H2 p1 (.tup us)) p1 = some (.tup us) := upd_same
        generalize upd H2 p1 (.tup us) = H3 at sm1 hp1' ⊢
        have s3 := sm.trans sm1
        refine ⟨.ref a, rfl, a, _, 2, x3, rfl, rfl, (Ex.same s3).tup hs, atI_nat (j := 2) rfl, (by show 1 ≤ sizeLine; decide), fun p2 n2 => ?_⟩
        have sm2 := Same.new (o := .tup [x3]) n2
        have hp2' : (upd H3 p2 (.tup [x3])) p2 = some (.tup [x3]) := upd_same
        generalize upd H3 p2 (.tup [x3]) = H4 at sm2 hp2' ⊢
        refine ⟨p1, p2, us, [x3], rfl, rfl, SqT.of (sm2 _ _ hp1'), SqT.of hp2', fun z => ?_, (by show us.length + 1 ≤ sizeLine; omega), (fun z => nomatch z), fun _ p3 n3 => ?_⟩
        · rw [z] at lu
          have : (0 : Nat) = ys.length := lu
          omega
        · have sm3 := Same.new (o := .tup (us ++ [x3])) n3
          have s5 := (s3.trans sm2).trans sm3
          rw [inn_L] at q
          refine q _ _ s5 (.tup (SqT.of upd_same) ((RddAll.ex (.same s5) _ ru).app (.cons (Rdd.ex (.same s5) _ r3) .nil)) ?_)
          rw [List.length_append, List.length_map]
          simp
          omega
end
end Sl

set_option Elab.async false
set_option linter.all false
set_option maxRecDepth 100000
set_option maxHeartbeats 400000
/-! ## [y for x in l for y in f(x)], f(x) a tuple -/
namespace Sl
open PySem PySem.Spec PyProof.Rows L2
theorem RddAll.app' {K : PySem.W.Frag} {H : Hp} : ∀ {xs ys : List V} {ds es : List D}, RddAll K H xs ds → RddAll K H ys es → RddAll K H (xs ++ ys) (ds ++ es)
  | _, _, _, _, .nil, h => h
  | _, _, _, _, .cons a b, h => .cons a (b.app' h)
theorem flat_take {f : D → List D} {ds : List D} {i : Nat} {d : D} (h : ds[i]? = some d) : (ds.take (i + 1)).flatMap f = (ds.take i).flatMap f ++ f d := by
  rw [List.take_add_one, h, List.flatMap_append]
  simp
theorem flat_le {f : D → List D} {ds : List D} (i : Nat) : ((ds.take i).flatMap f).length ≤ (ds.flatMap f).length := by
  have e : ds.flatMap f = (ds.take i).flatMap f ++ (ds.drop i).flatMap f := by rw [← List.flatMap_append, List.take_append_drop]
  rw [e, List.length_append]
  omega
theorem lc2F {K : PySem.W.Frag} {a D0 : Addr} {xs : List V} {ds : List D} {f : D → List D} {wi1 : TI} {vs vs1 : List Nat} {i1 i2 : Nat} {σ : L2.St} {H1 : Hp} {Qd : Hp → Prop} (tot : (ds.flatMap f).length ≤ 100000) (hT : SqL K H1 a xs) (hR : RddAll K H1 xs ds) (hD : H1 D0 = none)
    (w1 : ∀ x, wipe ((wipe σ vs).set i1 (some x)) vs = wipe σ vs)
    (w2 : ∀ x y, wipe ((wipe ((wipe σ vs).set i1 (some x)) vs1).set i2 (some y)) vs1 = wipe ((wipe σ vs).set i1 (some x)) vs1)
    (g2 : ∀ x y, ((wipe ((wipe σ vs).set i1 (some x)) vs1).set i2 (some y))[i2]? = some (some y))
    (hs : ∀ (x : V) (d : D) (H : Hp) (R : It → Hp → Prop), d ∈ ds → Rdd K H x d → Same H1 H → (∀ b ys H', Same H H' → SqT K H' b ys → RddAll K H' ys (f d) → R (Itt K b) H') → wi1 ((wipe σ vs).set i1 (some x)) H R)
    (hd : ∀ H acc, Same H1 H → H D0 = some (.lst acc) → RddAll K H acc (ds.flatMap f) → Qd H) :
    ∃ W : Nat → Nat → Hp → Prop, (∃ m, W 0 m (upd H1 D0 (.lst []))) ∧ ∀ i m H, W i m H →
      ((Itl K a).stop i H ∧ Qd H) ∨ ((Itl K a).go i H ∧ ∃ Nx : Hp → Prop, (∀ H', Nx H' → ∃ m', m' < m ∧ W (i + 1) m' H') ∧ ∀ x H', (Itl K a).yld i H x H' → gName i1 x (wipe σ vs) H' fun σ2 H2 => wipe σ2 vs = wipe σ vs ∧ tYes σ2 H2 fun b H3 =>
        if b = true then wi1 σ2 H3 fun J1 H4 => ∃ W1 : Nat → Nat → Hp → Prop, (∃ m, W1 0 m H4) ∧ ∀ j k H, W1 j k H →
          (J1.stop j H ∧ Nx H) ∨ (J1.go j H ∧ ∃ Nx1 : Hp → Prop, (∀ H', Nx1 H' → ∃ k', k' < k ∧ W1 (j + 1) k' H') ∧ ∀ x H', J1.yld j H x H' → gName i2 x (wipe σ2 vs1) H' fun σ3 H5 => wipe σ3 vs1 = wipe σ2 vs1 ∧ tYes σ3 H5 fun b H6 =>
            if b = true then tVar i2 σ3 H6 fun y H7 => ∃ acc, H7 D0 = some (.lst acc) ∧ acc.length < sizeLine ∧ Nx1 (upd H7 D0 (.lst (acc ++ [y]))) else Nx1 H6)
        else Nx H3) := by
  have len := hR.length
  have sl := sizeLine_eq
  refine ⟨fun i m H => m = xs.length - i ∧ i ≤ xs.length ∧ Off D0 H1 H ∧ ∃ acc, H D0 = some (.lst acc) ∧ RddAll K H acc ((ds.take i).flatMap f), ⟨xs.length, by simp, Nat.zero_le _, .put, [], upd_same, .nil⟩, ?_⟩
  rintro i m H ⟨rfl, hi, ho, acc, hacc, racc⟩
  have sm := same_off ho hD
  have q := Same.seq sm hT
  by_cases hlt : i < xs.length
  · obtain ⟨d, hd', rd⟩ := hR.get (List.getElem?_eq_getElem hlt)
    refine .inr ⟨⟨xs, xs[i], q, by simp [hlt]⟩, fun H => i + 1 ≤ xs.length ∧ Off D0 H1 H ∧ ∃ acc, H D0 = some (.lst acc) ∧ RddAll K H acc ((ds.take (i + 1)).flatMap f), fun H' p' => ⟨xs.length - (i + 1), by omega, rfl, p'⟩, fun x H' y => ?_⟩
    obtain ⟨e, y⟩ := y
    subst e
    have hx := y xs q
    rw [List.getElem?_eq_getElem hlt] at hx
    cases hx
    show wipe _ vs = wipe σ vs ∧ _
    refine ⟨w1 _, ?_⟩
    unfold tYes
    dsimp only
    rw [if_pos rfl]
    refine hs _ d H' _ (List.mem_of_getElem? hd') (Rdd.ex (.same sm) _ rd) sm fun b ys H4 s4 hb ry => ?_
    have lz := ry.length
    have o4 : Off D0 H1 H4 := ho.trans (.same s4)
    refine ⟨fun j k H => k = ys.length - j ∧ j ≤ ys.length ∧ Off D0 H1 H ∧ SqT K H b ys ∧ RddAll K H ys (f d) ∧ ∃ acc, H D0 = some (.lst acc) ∧ RddAll K H acc ((ds.take i).flatMap f ++ (f d).take j),
      ⟨ys.length, by simp, Nat.zero_le _, o4, hb, ry, acc, s4 _ _ hacc, by rw [List.take_zero, List.append_nil]; exact RddAll.ex (.same s4) _ racc⟩, ?_⟩
    rintro j k H ⟨rfl, hj, o5, hb5, ry5, acc5, ha5, ra5⟩
    by_cases hlt2 : j < ys.length
    · refine .inr ⟨⟨ys, ys[j], hb5, by simp [hlt2]⟩, fun H => j + 1 ≤ ys.length ∧ Off D0 H1 H ∧ SqT K H b ys ∧ RddAll K H ys (f d) ∧ ∃ acc, H D0 = some (.lst acc) ∧ RddAll K H acc ((ds.take i).flatMap f ++ (f d).take (j + 1)), fun H' p' => ⟨ys.length - (j + 1), by omega, rfl, p'⟩, fun x H' y => ?_⟩
      obtain ⟨e, y⟩ := y
      subst e
      have hx := y ys hb5
      rw [List.getElem?_eq_getElem hlt2] at hx
      cases hx
      obtain ⟨e2, he2, re2⟩ := ry5.get (List.getElem?_eq_getElem hlt2)
      show wipe _ vs1 = wipe _ vs1 ∧ _
      refine ⟨w2 _ _, ?_⟩
      have tl : acc5.length < 100000 := by
        have e3 := ra5.length
        have e4 : ((ds.take (i + 1)).flatMap f).length ≤ (ds.flatMap f).length := flat_le (i + 1)
        rw [flat_take hd', List.length_append] at e4
        rw [List.length_append, List.length_take] at e3
        omega
      dsimp only
      rw [if_pos rfl]
      refine ⟨_, g2 _ _, acc5, ha5, by omega, hlt2, o5.trans .put, ?_⟩
      have ex : Ex H' (upd H' D0 (.lst (acc5 ++ [ys[j]]))) := (Off.put (a := D0)).ex ha5 upd_same
      refine ⟨ex.tup hb5, RddAll.ex ex _ ry5, _, upd_same, ?_⟩
      rw [List.take_add_one, he2, ← List.append_assoc]
      exact (RddAll.ex ex _ ra5).app' (.cons (Rdd.ex ex _ re2) .nil)
    · have e : j = ys.length := by omega
      subst e
      refine .inl ⟨⟨ys, hb5, Nat.le_refl _⟩, hlt, o5, acc5, ha5, ?_⟩
      rw [flat_take hd']
      rw [lz, List.take_length] at ra5
      exact ra5
  · have e : i = xs.length := by omega
    subst e
    rw [len, List.take_length] at racc
    exact .inl ⟨⟨xs, q, Nat.le_refl _⟩, hd H acc sm hacc racc⟩
end Sl

set_option Elab.async false
set_option linter.all false
set_option maxRecDepth 100000
set_option maxHeartbeats 400000
namespace Sl
open PySem PySem.Spec PyProof.Rows L2
theorem scOpen : FnScope ["value", "many", "level", "_", "part", "term"] ["value"] (defScope sOpen) := ⟨rfl, rfl, rfl, by decide +kernel, rfl, by decide +kernel, by decide +kernel⟩
theorem fm_built : ∀ l : List D, (l.map fun d => some (V.bl (built d))).filterMap id = (l.map built).map V.bl
  | [] => rfl
  | d :: ds => by
    rw [List.map_cons, List.map_cons, List.map_cons, ← fm_built ds]
    rfl
/-- as lcT, over a list -/
theorem lcL {K : PySem.W.Frag} {a : Addr} {xs : List V} {g : TG} {tt : TT} {te : TE} {vs : List Nat} {σ : L2.St} {H1 : Hp} {D : Addr} {Qd : Hp → Prop} (ys : List (Option V)) (hlen : ys.length = xs.length) (hz : xs.length ≤ 100000) (hT : SqL K H1 a xs) (hD : H1 D = none)
    (hs : ∀ (i : Nat) (x : V) (H : Hp) (Q : VK) (Z : Hp → Prop), xs[i]? = some x → Same H1 H → (∀ y H', ys[i]? = some (some y) → Same H H' → Q y H') → (∀ H', ys[i]? = some none → Same H H' → Z H') →
      g x (wipe σ vs) H fun σ2 H2 => wipe σ2 vs = wipe σ vs ∧ tt σ2 H2 fun b H3 => if b = true then te σ2 H3 Q else Z H3)
    (hd : ∀ H, Same H1 H → H D = some (.lst (ys.filterMap id)) → Qd H) :
    ∃ W : Nat → Nat → Hp → Prop, (∃ m, W 0 m (upd H1 D (.lst []))) ∧ ∀ i m H, W i m H →
      ((Itl K a).stop i H ∧ Qd H) ∨ ((Itl K a).go i H ∧ ∃ Nx : Hp → Prop, (∀ H', Nx H' → ∃ m', m' < m ∧ W (i + 1) m' H') ∧ ∀ x H', (Itl K a).yld i H x H' → g x (wipe σ vs) H' fun σ2 H2 => wipe σ2 vs = wipe σ vs ∧ tt σ2 H2 fun b H3 =>
        if b = true then te σ2 H3 fun y H4 => ∃ acc, H4 D = some (.lst acc) ∧ acc.length < sizeLine ∧ Nx (upd H4 D (.lst (acc ++ [y]))) else Nx H3) := by
  have short : ∀ i, ((ys.take i).filterMap id).length < sizeLine := fun i => by
    have h1 := List.length_filterMap_le id (ys.take i)
    have h2 : (ys.take i).length ≤ ys.length := by rw [List.length_take]; omega
    have h3 := sizeLine_eq
    omega
  refine lc_list (fun i H => Off D H1 H ∧ H D = some (.lst ((ys.take i).filterMap id))) ⟨.put, upd_same⟩ (fun i H _ ⟨h, _⟩ => Same.seq (same_off h hD) hT) (fun i x H hx ⟨ho, hl⟩ => ?_) (fun H ⟨ho, hl⟩ => ?_)
  · refine hs i x H _ _ hx (same_off ho hD) (fun y H' hy sm => ⟨_, sm _ _ hl, short i, (ho.trans (.same sm)).trans .put, ?_⟩) (fun H' hy sm => ⟨ho.trans (.same sm), ?_⟩)
    · rw [upd_same, List.take_add_one, hy, List.filterMap_append]
      rfl
    · rw [sm _ _ hl, List.take_add_one, hy, List.filterMap_append]
      simp
  · refine hd H (same_off ho hD) ?_
    rw [hl, ← hlen, List.take_length]
section
variable {P : Program} {w : World} {K : PySem.W.Frag} {mg : Str → Option Value} {base : Heap} {fN fD fB fI fO : Addr} {fdN fdD fdB fdI fdO : FuncData}
def spOpen (K : PySem.W.Frag) : Sp := fun vs H Q _ => ∃ v d, vs = [v] ∧ Rdd K H v d ∧ (∀ k, HdN k d) ∧ ∀ H', Same H H' → Q (.bl (isOpen d)) H'
theorem ok_open (F : Fun K "is_open_term" "is_open_term" sOpen fO fdO) (T : Fns K mg fN fD fB fI fdN fdD fdB fdI) (U : Tops K mg) (B : Bt mg) : FnOk P w K mg base CX0 4 fO fdO ["value"] (spOpen K) := by
  have GB : FnOk P w K mg base CX0 3 fB fdB ["value"] (spBuilt K) := ok_built T U B
  have GI : FnOk P w K mg base CX0 1 fI fdI ["part"] (spInn K) := ok_inn T B
  refine F.ok scOpen (fun vs H Q E h => ?_) (fun cdv A outer s H vs Q E hr h => ?_)
  · obtain ⟨v, d, rfl, _⟩ := h
    rfl
  · obtain ⟨v, d, rfl, hv, hh, q⟩ := h
    obtain ⟨t120, g120⟩ := U.levels
    obtain ⟨t500, g500⟩ := U.parts
    have h1 := hr.mono (by decide : 1 ≤ 3)
    refine ⟨_, (pss_cons (ps_set (i := 1) scOpen.nd rfl (Or.inl rfl) pe_int)
      (pss_cons (ps_set (i := 2) scOpen.nd rfl (Or.inl rfl) (pe_lst (pa_cons (pv 0) pa_nil)))
      (pss_cons (ps_for PassesOwn.never rfl (pi_range1 (by rfl) B.range (pa_cons (pe_glob (v := .int 120) (by rfl) g120 ⟨_, rfl⟩) pa_nil)) (pg_name (i := 3) scOpen.nd rfl (Or.inl rfl))
        (pss_cons (ps_aug (i := 1) scOpen.nd rfl (.inl rfl) (pe_callB call_len_seq (by rfl) B.len PySem.boot_len (pa_cons (pv 2) pa_nil)) ip_add)
        (pss_cons (ps_if (PW.pt (pw_or (pt_cmpR op_gt (pv 1) (pe_glob (v := .int 500) (by rfl) g500 ⟨_, rfl⟩) (nomark _)) (pw_or1 (pt_not (pt_val (pe_callB (cr_all rfl) (by rfl) B.all (by decide +kernel) (pa_cons
              (pe_lc (own := [("part", 4)]) (g := gName 4) (tt := tYes) rfl scOpen.nd (pi_list (pv 2)) (blkOk_by (own := [("part", 4)]) (N := ["value", "many", "level", "_", "part", "term"]) (sc := defScope sOpen) (by decide +kernel))
                (fun _ _ _ _ _ => pg_name (i := 4) scOpen.nd rfl (Or.inl rfl)) (fun _ _ _ _ _ => pts_nil) (fun _ _ _ _ _ => pe_call GB hr (by rfl) T.gB T.FB.kp T.bB .nil pass0 (pa_cons (pv 4) pa_nil))) pa_nil)))))))
          (pss_one (ps_ret pe_bl)) pss_nil)
        (pss_cons (ps_setLc2 (i := 2) (own := [("part", 4), ("term", 5)]) (vs1 := [5]) (g := gName 4) (tt := tYes) (wi1 := iTup K (tCall (spInn K) [] E0 (tCons (tVar 4) tNil))) (g1 := gName 5) (tt1 := tYes) (te := tVar 5) rfl scOpen.nd rfl rfl (sw_true rfl rfl rfl (by decide +kernel)) (pi_list (pv 2))
            (blkOk_by (own := [("part", 4), ("term", 5)]) (N := ["value", "many", "level", "_", "part", "term"]) (sc := defScope sOpen) (by decide +kernel)) (by decide)
            (fun _ _ _ _ _ => pg_name (i := 4) scOpen.nd rfl (Or.inl rfl)) (fun _ _ _ _ _ => pts_nil) (fun _ _ _ _ _ => pi_tup (by exact pe_call GI h1 (by rfl) T.gI T.FI.kp T.bI .nil pass0 (pa_cons (pv 4) pa_nil)))
            (fun _ _ _ _ _ => pg_name (i := 5) scOpen.nd rfl (Or.inl rfl)) (fun _ _ _ _ _ => pts_nil) (fun _ _ _ _ _ => pv 5))
        (pss_one (ps_if (pt_cmpR op_eq (pe_callB call_len_seq (by rfl) B.len PySem.boot_len (pa_cons (pv 2) pa_nil)) pe_int (nomark _))
          (pss_one (ps_ret pe_bl)) pss_nil))))))
      (pss_one (ps_ret pe_bl))))), ?_⟩
    refine ⟨v, rfl, (by show 1 ≤ sizeLine; decide), fun p np => ?_⟩
    have sm := Same.new (o := .lst [v]) np
    have hp : (upd H p (.lst [v])) p = some (.lst [v]) := upd_same
    generalize upd H p (.lst [v]) = H1 at sm hp ⊢
    refine ⟨120, rfl, by decide, by decide, for_range (n := 120) (fun i σ' H' => ∃ (m : Nat) (p : Addr) (xs : List V) (l : List D) (y : Option V), σ' = [some v, some (.int m), some (.ref p), y, none, none] ∧ Same H H' ∧ H' p = some (.lst xs) ∧ RddAll K H' xs l ∧
      l.length ≤ 50500 ∧ (∀ d ∈ l, ∀ k, HdN k d) ∧ m ≤ 500 ∧ isOpen d = opn (120 - i) m l) ⟨0, p, [v], [d], none, rfl, sm, hp, .cons (Rdd.ex (.same sm) _ hv) .nil, by simp, ?_, by omega, rfl⟩ ?_ ?_⟩
    · intro x hx
      rw [List.mem_singleton.mp hx]
      exact hh
    · rintro i σ' H' hi ⟨m, p, xs, l, y, rfl, sm, hp, hx, hl, hd, hm, e⟩
      have len := hx.length
      have sl := sizeLine_eq
      obtain ⟨k, hk⟩ : ∃ k, 120 - i = k + 1 := ⟨120 - (i + 1), by omega⟩
      have hk2 : 120 - (i + 1) = k := by omega
      rw [hk] at e
      unfold opn at e
      refine ⟨.int m, rfl, .ref p, rfl, p, xs, rfl, .inl (SqL.of hp), _, _, rfl, rfl, ?_⟩
      refine ⟨.int (m + xs.length), rfl, _, _, rfl, rfl, _, rfl, ite2 (fun e1 => ?_) (fun e1 => ?_)⟩
      · have big : m + l.length > 500 := by
          have := of_decide_eq_true e1
          omega
        rw [if_pos (.inl big)] at e
        rw [e] at q
        exact q _ sm
      · have small : ¬ m + l.length > 500 := fun z => e1 (decide_eq_true (by omega))
        refine ⟨.ref p, rfl, p, rfl, ⟨_, SqL.of hp⟩, fun D0 nD => lcL (l.map fun d => some (V.bl (built d))) (by rw [List.length_map, len]) (by omega) (SqL.of hp) nD ?_ ?_⟩
        · intro j x H2 Q2 Z2 hxj s2 hQ _
          obtain ⟨d1, hd1, rd⟩ := hx.get hxj
          refine ⟨rfl, ?_⟩
          refine iteT (B := Z2 H2) ⟨x, rfl, x, d1, rfl, Rdd.ex (.same s2) _ rd, hd d1 (List.mem_of_getElem? hd1) 1 |>.1, fun H3 s3 => hQ _ _ ?_ s3⟩
          rw [List.getElem?_map, hd1]
          rfl
        · intro H2 s2 hl2
          rw [fm_built] at hl2
          refine ⟨D0, l.map built, rfl, .inl (.inl hl2), ?_⟩
          have eA : (l.map built).all id = l.all built := by
            rw [List.all_map]
            rfl
          rw [eA]
          refine ⟨_, rfl, ite2 (fun e2 => ?_) (fun e2 => ?_)⟩
          · have nb : l.all built = false := by
              cases h : l.all built
              · rfl
              · rw [h] at e2
                cases e2
            rw [if_pos (.inr nb)] at e
            rw [e] at q
            exact q _ (sm.trans s2)
          · have yb : l.all built = true := by
              cases h : l.all built
              · rw [h] at e2
                exact absurd rfl e2
              · rfl
            rw [if_neg (fun z => by
              rcases z with z | z
              · exact small z
              · rw [yb] at z
                cases z)] at e
            have allb := List.all_eq_true.mp yb
            have fl := flat_len allb
            refine ⟨.ref p, rfl, p, rfl, ⟨_, SqL.of (s2 _ _ hp)⟩, fun D1 nD1 => lc2F (ds := l) (f := inn) (by omega) (SqL.of (s2 _ _ hp)) (RddAll.ex (.same s2) _ hx) nD1 (fun _ => rfl) (fun _ _ => rfl) (fun _ _ => rfl) ?_ ?_⟩
            · intro x d1 H3 R hd1 rd s3 hR
              exact ⟨x, rfl, x, d1, rfl, rd, allb d1 hd1, fun r H4 s4 rr => by
                obtain ⟨b, ys, rfl, hb, hy, _⟩ := rr.tupd'
                exact ⟨b, rfl, ⟨_, hb⟩, hR b ys H4 s4 hb hy⟩⟩
            · intro H3 acc s3 hD1 ra
              have l3 := ra.length
              have s4 := (sm.trans s2).trans s3
              refine ⟨.ref D1, rfl, D1, acc, rfl, .inl (SqL.of hD1), rfl, _, rfl, ?_⟩
              rw [int_dec]
              refine ite2 (fun e3 => ?_) (fun e3 => ?_)
              · have z : (l.flatMap inn).isEmpty = true := List.isEmpty_iff.mpr (List.length_eq_zero_iff.mp (by
                  have := of_decide_eq_true e3
                  omega))
                rw [if_pos z] at e
                rw [e] at q
                exact q _ s4
              · have z : ¬ (l.flatMap inn).isEmpty = true := fun t => e3 (by
                  have := List.isEmpty_iff.mp t
                  rw [this] at l3
                  rw [l3]
                  rfl)
                rw [if_neg z] at e
                refine ⟨m + l.length, D1, acc, l.flatMap inn, some (.int (0 + (i : Int))), ?_, s4, hD1, ra, by omega, fun d2 hd2 k2 => ?_, by omega, by rw [hk2]; exact e⟩
                · show [some v, some (V.int ((m : Int) + (xs.length : Int))), some (V.ref D1), some (V.int (0 + (i : Int))), none, none] = _
                  rw [len, Int.natCast_add]
                · obtain ⟨d1, hd1, he⟩ := List.mem_flatMap.mp hd2
                  exact (hd d1 hd1 (k2 + 1)).2 d2 he
    · rintro σ' H' ⟨m, p, xs, l, y, rfl, sm, hp, hx, hl, hd, hm, e⟩
      have e2 : isOpen d = false := e
      rw [e2] at q
      exact q _ sm
end
end Sl

set_option Elab.async false
set_option linter.all false
set_option maxRecDepth 100000
set_option maxHeartbeats 400000
/-! ## Definitions ascending by names -/
namespace Sl
open PySem PySem.Spec PyProof.Rows L2
theorem lt_irr : ∀ a : List Nat, ltCps a a = false
  | [] => rfl
  | a :: r => by
    unfold ltCps
    rw [lt_irr r]
    simp
theorem lt_tr : ∀ {a b c : List Nat}, ltCps a b = true → ltCps b c = true → ltCps a c = true
  | [], [], _, h, _ => by cases h
  | [], _ :: _, [], _, h => by cases h
  | [], _ :: _, _ :: _, _, _ => rfl
  | _ :: _, [], _, h, _ => by cases h
  | _ :: _, _ :: _, [], _, h => by cases h
  | a :: r, b :: s, c :: t, h1, h2 => by
    unfold ltCps at h1 h2 ⊢
    simp only [Bool.or_eq_true, decide_eq_true_eq, Bool.and_eq_true, beq_iff_eq] at h1 h2 ⊢
    rcases h1 with h1 | ⟨rfl, h1⟩
    · rcases h2 with h2 | ⟨rfl, h2⟩
      · exact .inl (by omega)
      · exact .inl h1
    · rcases h2 with h2 | ⟨rfl, h2⟩
      · exact .inl h2
      · exact .inr ⟨rfl, lt_tr h1 h2⟩
theorem lt_tri : ∀ {a b : List Nat}, ltCps a b = false → ltCps b a = false → a = b
  | [], [], _, _ => rfl
  | [], _ :: _, h, _ => by cases h
  | _ :: _, [], _, h => by cases h
  | a :: r, b :: s, h1, h2 => by
    unfold ltCps at h1 h2
    simp only [Bool.or_eq_false_iff, decide_eq_false_iff_not, Bool.and_eq_false_iff, beq_eq_false_iff_ne] at h1 h2
    have e : a = b := by omega
    subst e
    rcases h1.2 with h | h
    · exact absurd rfl h
    · rcases h2.2 with h' | h'
      · exact absurd rfl h'
      · rw [lt_tri h h']
def sLt (x y : Str) : Bool := ltCps x.cps.toList y.cps.toList
theorem sLt_irr (x : Str) : sLt x x = false := lt_irr _
theorem sLt_tr {x y z : Str} (h1 : sLt x y = true) (h2 : sLt y z = true) : sLt x z = true := lt_tr h1 h2
theorem sLt_tri {x y : Str} (h1 : sLt x y = false) (h2 : sLt y x = false) : x = y := by
  have e := lt_tri h1 h2
  obtain ⟨⟨a⟩⟩ := x
  obtain ⟨⟨b⟩⟩ := y
  have e' : a = b := e
  rw [e']
theorem sLt_asym {x y : Str} (h : sLt x y = true) : sLt y x = false := by
  cases e : sLt y x
  · rfl
  · have := sLt_tr h e
    rw [sLt_irr] at this
    cases this
/-- strictly ascending -/
abbrev Asc (l : List Str) : Prop := l.Pairwise fun x y => sLt x y = true
theorem asc_uniq : ∀ {l m : List Str}, Asc l → Asc m → l.Perm m → l = m
  | [], _, _, _, h => (List.Perm.eq_nil h.symm).symm
  | x :: l, [], _, _, h => absurd h.length_eq (by simp)
  | x :: l, y :: m, hl, hm, h => by
    have hl' := List.pairwise_cons.mp hl
    have hm' := List.pairwise_cons.mp hm
    by_cases e : x = y
    · subst e
      rw [asc_uniq hl'.2 hm'.2 h.cons_inv]
    · have h1 : x ∈ m := by
        rcases List.mem_cons.mp (h.mem_iff.mp (List.mem_cons_self (a := x) (l := l))) with z | z
        · exact absurd z e
        · exact z
      have h2 : y ∈ l := by
        rcases List.mem_cons.mp (h.mem_iff.mpr (List.mem_cons_self (a := y) (l := m))) with z | z
        · exact absurd z.symm e
        · exact z
      have a := hl'.1 y h2
      have b := hm'.1 x h1
      rw [sLt_asym a] at b
      cases b
theorem rising_all : ∀ (l : List Str) (p : Str), risingS p l = true → (p :: l).Pairwise fun x y => sLt y x = false
  | [], p, _ => List.pairwise_singleton _ _
  | x :: r, p, h => by
    have h' : (!ltCps x.cps.toList p.cps.toList && risingS x r) = true := h
    simp only [Bool.and_eq_true, Bool.not_eq_true'] at h'
    have ih := rising_all r x h'.2
    have h1 : sLt x p = false := h'.1
    refine List.pairwise_cons.mpr ⟨fun y hy => ?_, ih⟩
    rcases List.mem_cons.mp hy with rfl | hy
    · exact h1
    · have h2 := (List.pairwise_cons.mp ih).1 y hy
      cases e : sLt y p
      · rfl
      · exfalso
        cases e3 : sLt x y
        · have := sLt_tri e3 h2
          rw [this, e] at h1
          cases h1
        · have := sLt_tr e3 e
          rw [h1] at this
          cases this
theorem sortedS_asc {l : List Str} (h : sortedS l = true) (n : l.Nodup) : Asc l := by
  have p : l.Pairwise fun x y => sLt y x = false := by
    cases l with
    | nil => exact List.Pairwise.nil
    | cons x r => exact rising_all r x h
  refine (p.and (List.nodup_iff_pairwise_ne.mp n)).imp fun {x y} q => ?_
  cases e : sLt x y
  · exact absurd (sLt_tri e q.1) q.2
  · rfl
def insP (p : Str × D) : List (Str × D) → List (Str × D)
  | [] => [p]
  | q :: r => if sLt p.1 q.1 = true then p :: q :: r else q :: insP p r
def srtP : List (Str × D) → List (Str × D)
  | [] => []
  | p :: r => insP p (srtP r)
theorem insP_perm (p : Str × D) : ∀ l, (insP p l).Perm (p :: l)
  | [] => List.Perm.refl _
  | q :: r => by
    unfold insP
    split
    · exact List.Perm.refl _
    · exact ((insP_perm p r).cons q).trans (List.Perm.swap p q r)
theorem srtP_perm : ∀ l, (srtP l).Perm l
  | [] => List.Perm.refl _
  | p :: r => (insP_perm p (srtP r)).trans ((srtP_perm r).cons p)
theorem insP_asc {p : Str × D} : ∀ {l : List (Str × D)}, Asc (l.map (·.1)) → p.1 ∉ l.map (·.1) → Asc ((insP p l).map (·.1))
  | [], _, _ => List.pairwise_singleton _ _
  | q :: r, h, n => by
    have h' := List.pairwise_cons.mp h
    unfold insP
    split
    · rename_i e
      refine List.pairwise_cons.mpr ⟨fun y hy => ?_, h⟩
      rcases List.mem_cons.mp hy with rfl | hy
      · exact e
      · exact sLt_tr e (h'.1 y hy)
    · rename_i e
      have ne : p.1 ≠ q.1 := fun z => n (by rw [z]; exact List.mem_cons_self)
      have lt : sLt q.1 p.1 = true := by
        cases z : sLt q.1 p.1
        · exact absurd (sLt_tri (Bool.eq_false_iff.mpr e) z) ne
        · rfl
      refine List.pairwise_cons.mpr ⟨fun y hy => ?_, insP_asc h'.2 fun z => n (List.mem_cons_of_mem _ z)⟩
      obtain ⟨u, hu, rfl⟩ := List.mem_map.mp hy
      rcases List.mem_cons.mp ((insP_perm p r).mem_iff.mp hu) with rfl | hu
      · exact lt
      · exact h'.1 _ (List.mem_map.mpr ⟨u, hu, rfl⟩)
theorem srtP_asc : ∀ {l : List (Str × D)}, (l.map (·.1)).Nodup → Asc ((srtP l).map (·.1))
  | [], _ => List.Pairwise.nil
  | p :: r, h => by
    have h' := List.nodup_cons.mp h
    refine insP_asc (srtP_asc h'.2) fun z => h'.1 ?_
    exact ((srtP_perm r).map (·.1)).mem_iff.mp z
/-- what sorted gives of the names -/
theorem srt_names {l : List (Str × D)} {ys : List Str} (h : (l.map (·.1)).Nodup) (hp : ys.Perm (l.map (·.1))) (hs : sortedS ys = true) : ys = (srtP l).map (·.1) :=
  asc_uniq (sortedS_asc hs (hp.nodup_iff.mpr h)) (srtP_asc h) (hp.trans ((srtP_perm l).map (·.1)).symm)
/-- two lists of pairs with the same items are sorted alike -/
theorem srtP_uniq {l m : List (Str × D)} (h : (l.map (·.1)).Nodup) (p : l.Perm m) : srtP l = srtP m := by
  have hm : (m.map (·.1)).Nodup := (p.map (·.1)).nodup_iff.mp h
  have e : (srtP l).map (·.1) = (srtP m).map (·.1) := asc_uniq (srtP_asc h) (srtP_asc hm) ((((srtP_perm l).trans p).trans (srtP_perm m).symm).map (·.1))
  have q : (srtP l).Perm (srtP m) := ((srtP_perm l).trans p).trans (srtP_perm m).symm
  have key : ∀ (a b : List (Str × D)), a.map (·.1) = b.map (·.1) → (a.map (·.1)).Nodup → a.Perm b → a = b := by
    intro a
    induction a with
    | nil => intro b _ _ hp; exact (List.Perm.eq_nil hp.symm).symm
    | cons x a ih =>
      intro b e n hp
      cases b with
      | nil => exact absurd hp.length_eq (by simp)
      | cons y b =>
        have e1 : x.1 = y.1 := (List.cons.inj e).1
        have n' := List.nodup_cons.mp n
        have e2 : x = y := by
          rcases List.mem_cons.mp (hp.mem_iff.mpr (List.mem_cons_self (a := y) (l := b))) with z | z
          · exact z.symm
          · exact absurd (List.mem_map.mpr ⟨y, z, e1.symm⟩) n'.1
        subst e2
        rw [ih b (List.cons.inj e).2 n'.2 hp.cons_inv]
  exact key _ _ e (((srtP_perm l).map (·.1)).nodup_iff.mpr h) q
/-! ### an open term with all definitions ascending -/
def srt3 (f : D → D) (s : Str) (b c : D) : D :=
  if s = "word" then .tup [.str s, b, .tup (c.items.map f)] else if s = "fun" then .tup [.str s, b, f c] else .tup [.str s, .tup (mkPs (srtP (b.items.map fun d => (d.fst, f d.snd)))), f c]
def srtD : Nat → D → D
  | 0, d => d
  | n + 1, d => match d with
    | .tup [.str s, b, c] => srt3 (srtD n) s b c
    | d => d
theorem srt_U (n : Nat) (x : Str) : srtD (n + 1) (mkU x) = mkU x := rfl
theorem srt_W (n : Nat) (x : Str) (l : List D) : srtD (n + 1) (mkW x l) = mkW x (l.map (srtD n)) := by
  show srt3 (srtD n) "word" (.str x) (.tup l) = _
  unfold srt3
  rw [if_pos rfl]
  rfl
theorem srt_F (n : Nat) (x : Str) (b : D) : srtD (n + 1) (mkF x b) = mkF x (srtD n b) := by
  show srt3 (srtD n) "fun" (.str x) b = _
  unfold srt3
  rw [if_neg ne_wf, if_pos rfl]
  rfl
theorem srt_L (n : Nat) (ps : List (Str × D)) (b : D) : srtD (n + 1) (mkL ps b) = mkL (srtP (ps.map fun p => (p.1, srtD n p.2))) (srtD n b) := by
  show srt3 (srtD n) "let" (.tup (mkPs ps)) b = _
  unfold srt3
  rw [if_neg ne_wl, if_neg ne_fl]
  show D.tup [.str "let", .tup (mkPs (srtP ((mkPs ps).map fun d => (d.fst, srtD n d.snd)))), srtD n b] = _
  have e : (mkPs ps).map (fun d => (d.fst, srtD n d.snd)) = ps.map fun p => (p.1, srtD n p.2) := by
    unfold mkPs
    rw [List.map_map]
    rfl
  rw [e]
  rfl
theorem defOk_perm {l m : List (Str × D)} (p : l.Perm m) (h : DefOk m) : DefOk l :=
  ⟨by rw [p.length_eq]; exact h.1, by rw [p.length_eq]; exact h.2.1, fun x hx => h.2.2.1 x (p.mem_iff.mp hx), (p.map (·.1)).nodup_iff.mpr h.2.2.2⟩
theorem defOk_map {l : List (Str × D)} (f : D → D) (h : DefOk l) : DefOk (l.map fun p => (p.1, f p.2)) := by
  refine ⟨by rw [List.length_map]; exact h.1, by rw [List.length_map]; exact h.2.1, fun x hx => ?_, ?_⟩
  · obtain ⟨y, hy, rfl⟩ := List.mem_map.mp hx
    exact h.2.2.1 y hy
  · rw [List.map_map]
    exact h.2.2.2
theorem cnt_U (n : Nat) (x : Str) : cnt (n + 1) (mkU x) = 1 := rfl
theorem cnt_s (n : Nat) (d : D) : cnt (n + 1) d = 1 + ((inn d).map (cnt n)).sum := rfl
theorem OpN.s {n : Nat} {d : D} : OpN (n + 1) d ↔ (built d = true ∧ (inn d).length ≤ 4) ∧ ∀ e ∈ inn d, OpN n e := Iff.rfl
theorem srt_ok : ∀ (n : Nat) (d : D), OpN n d → OpN n (srtD n d) ∧ cnt n (srtD n d) = cnt n d
  | 0, _, h => h.elim
  | n + 1, d, h => by
    have map_sum : ∀ l : List D, (∀ e ∈ l, OpN n e) → ((l.map (srtD n)).map (cnt n)).sum = (l.map (cnt n)).sum := by
      intro l
      induction l with
      | nil => exact fun _ => rfl
      | cons x l ih =>
        intro hl
        rw [List.map_cons, List.map_cons, List.sum_cons, List.map_cons, List.sum_cons, (srt_ok n x (hl x List.mem_cons_self)).2, ih fun y hy => hl y (List.mem_cons_of_mem _ hy)]
    obtain ⟨⟨hb, hw⟩, hi⟩ := OpN.s.mp h
    rcases built_cases hb with ⟨x, rfl, hx⟩ | ⟨x, l, rfl, hx, hl⟩ | ⟨x, b, rfl, hx⟩ | ⟨ps, b, rfl, hp⟩
    · exact ⟨h, rfl⟩
    · rw [srt_W]
      rw [inn_W] at hi hw
      refine ⟨OpN.s.mpr ⟨⟨?_, by rw [inn_W, List.length_map]; exact hw⟩, fun e he => ?_⟩, ?_⟩
      · rw [built_W, hx, List.length_map, decide_eq_true hl]
        rfl
      · rw [inn_W] at he
        obtain ⟨y, hy, rfl⟩ := List.mem_map.mp he
        exact (srt_ok n y (hi y hy)).1
      · rw [cnt_s, cnt_s, inn_W, inn_W, map_sum l hi]
    · rw [srt_F]
      rw [inn_F] at hi
      have h1 := srt_ok n b (hi b (List.mem_singleton.mpr rfl))
      refine ⟨OpN.s.mpr ⟨⟨?_, by rw [inn_F]; simp⟩, fun e he => ?_⟩, ?_⟩
      · rw [built_F]
        exact hx
      · rw [inn_F] at he
        rw [List.mem_singleton.mp he]
        exact h1.1
      · rw [cnt_s, cnt_s, inn_F, inn_F, List.map_singleton, List.map_singleton, h1.2]
    · rw [srt_L]
      rw [inn_L] at hi hw
      have hq := srtP_perm (ps.map fun p => (p.1, srtD n p.2))
      have hb' := srt_ok n b (hi b (List.mem_append_right _ (List.mem_singleton.mpr rfl)))
      have e2 : ((ps.map fun p => (p.1, srtD n p.2)).map fun p => p.2) = (ps.map (·.2)).map (srtD n) := by
        rw [List.map_map, List.map_map]
        rfl
      have hps : ∀ e ∈ ps.map (·.2), OpN n e := fun e he => hi e (List.mem_append_left _ he)
      refine ⟨OpN.s.mpr ⟨⟨built_L.mpr (defOk_perm hq (defOk_map _ hp)), ?_⟩, fun e he => ?_⟩, ?_⟩
      · rw [inn_L, List.length_append, List.length_map, hq.length_eq, List.length_map]
        rw [List.length_append, List.length_map] at hw
        exact hw
      · rw [inn_L] at he
        rcases List.mem_append.mp he with he | he
        · have he2 := (hq.map (·.2)).mem_iff.mp he
          rw [e2] at he2
          obtain ⟨y, hy, rfl⟩ := List.mem_map.mp he2
          exact (srt_ok n y (hps y hy)).1
        · rw [List.mem_singleton.mp he]
          exact hb'.1
      · rw [cnt_s, cnt_s, inn_L, inn_L, List.map_append, List.map_append, List.sum_append, List.sum_append, List.map_singleton, List.map_singleton, hb'.2]
        have e3 : (((srtP (ps.map fun p => (p.1, srtD n p.2))).map (·.2)).map (cnt n)).sum = ((ps.map (·.2)).map (cnt n)).sum := by
          rw [((hq.map (·.2)).map (cnt n)).sum_nat, e2]
          exact map_sum _ hps
        rw [e3]
def wide : Nat → Nat
  | 0 => 0
  | n + 1 => 1 + 4 * wide n
theorem cnt_le : ∀ (n : Nat) (d : D), OpN n d → cnt n d ≤ wide n
  | 0, _, h => h.elim
  | n + 1, d, h => by
    obtain ⟨⟨_, hw⟩, hi⟩ := OpN.s.mp h
    have key : ∀ l : List D, (∀ e ∈ l, OpN n e) → (l.map (cnt n)).sum ≤ l.length * wide n := by
      intro l
      induction l with
      | nil => exact fun _ => Nat.zero_le _
      | cons x l ih =>
        intro hl
        have h1 := cnt_le n x (hl x List.mem_cons_self)
        have h2 := ih fun y hy => hl y (List.mem_cons_of_mem _ hy)
        rw [List.map_cons, List.sum_cons, List.length_cons, Nat.succ_mul]
        omega
    have h1 := key _ hi
    have h2 : (inn d).length * wide n ≤ 4 * wide n := Nat.mul_le_mul_right _ hw
    rw [cnt_s]
    show _ ≤ 1 + 4 * wide n
    omega
theorem wide_le {n m : Nat} (h : n ≤ m) : wide n ≤ wide m := by
  induction h with
  | refl => exact Nat.le_refl _
  | step _ ih =>
    refine Nat.le_trans ih ?_
    show _ ≤ 1 + 4 * _
    omega
end Sl

set_option Elab.async false
set_option linter.all false
set_option maxRecDepth 100000
set_option maxHeartbeats 400000
namespace Sl
open PySem PySem.Spec PyProof.Rows L2
abbrev sCkP : Stmt := topT 17
abbrev sCkN : Stmt := topT 18
abbrev sUse : Stmt := topT 19
abbrev sWord : Stmt := topT 20
abbrev sWordOf : Stmt := topT 21
abbrev sFun : Stmt := topT 22
abbrev sLet : Stmt := topT 23
abbrev sLetOf : Stmt := topT 24
theorem scCkP : FnScope ["part"] ["part"] (defScope sCkP) := ⟨rfl, rfl, rfl, by decide +kernel, rfl, by decide +kernel, by decide +kernel⟩
theorem scCkN : FnScope ["name"] ["name"] (defScope sCkN) := ⟨rfl, rfl, rfl, by decide +kernel, rfl, by decide +kernel, by decide +kernel⟩
theorem scUse : FnScope ["name"] ["name"] (defScope sUse) := ⟨rfl, rfl, rfl, by decide +kernel, rfl, by decide +kernel, by decide +kernel⟩
theorem scWordOf : FnScope ["name", "terms", "made"] ["name", "terms"] (defScope sWordOf) := ⟨rfl, rfl, rfl, by decide +kernel, rfl, by decide +kernel, by decide +kernel⟩
theorem scFun : FnScope ["variable", "term", "made"] ["variable", "term"] (defScope sFun) := ⟨rfl, rfl, rfl, by decide +kernel, rfl, by decide +kernel, by decide +kernel⟩
/-- the program's own makers -/
structure Mks (K : PySem.W.Frag) (mg : Str → Option Value) (fO fCP fCN fU fWO fF : Addr) (fdO fdCP fdCN fdU fdWO fdF : FuncData) : Prop where
  FO : Fun K "is_open_term" "is_open_term" sOpen fO fdO
  bO : Binds K fdO ["value"] []
  gO : mg "is_open_term" = some (.ref fO)
  FCP : Fun K "check_part" "check_part" sCkP fCP fdCP
  bCP : Binds K fdCP ["part"] []
  gCP : mg "check_part" = some (.ref fCP)
  FCN : Fun K "check_name" "check_name" sCkN fCN fdCN
  bCN : Binds K fdCN ["name"] []
  gCN : mg "check_name" = some (.ref fCN)
  FU : Fun K "use" "use" sUse fU fdU
  bU : Binds K fdU ["name"] []
  gU : mg "use" = some (.ref fU)
  FWO : Fun K "word_of" "word_of" sWordOf fWO fdWO
  bWO : Binds K fdWO ["name", "terms"] []
  gWO : mg "word_of" = some (.ref fWO)
  FF : Fun K "fun" "fun" sFun fF fdF
  bF : Binds K fdF ["variable", "term"] []
  gF : mg "fun" = some (.ref fF)
/-- an open term of the program's own limits -/
def Okd (d : D) : Prop := ∃ n, n ≤ 120 ∧ OpN n d ∧ cnt n d ≤ 500
theorem Okd.open {d : D} (h : Okd d) : isOpen d = true := by
  obtain ⟨n, h1, h2, h3⟩ := h
  exact isOpen_of h2 h1 h3
theorem Okd.hd {d : D} (h : Okd d) : ∀ k, HdN k d := by
  obtain ⟨n, h1, h2, h3⟩ := h
  exact h2.hd
section
variable {P : Program} {w : World} {K : PySem.W.Frag} {mg : Str → Option Value} {base : Heap} {fN fD fB fI : Addr} {fdN fdD fdB fdI : FuncData} {fO fCP fCN fU fWO fF : Addr} {fdO fdCP fdCN fdU fdWO fdF : FuncData}
theorem tup_val {H : Hp} {p : Addr} {xs : List V} {ds : List D} (hp : H p = some (.tup xs)) (h : RddAll K H xs ds) (hz : ds.length ≤ 100000) : Rdd K H (.ref p) (.tup ds) := .tup (SqT.of hp) h hz
def spCkP (K : PySem.W.Frag) : Sp := fun vs H Q _ => ∃ v d, vs = [v] ∧ Rdd K H v d ∧ Okd d ∧ ∀ H', Same H H' → Q .non H'
theorem ok_ckp (M : Mks K mg fO fCP fCN fU fWO fF fdO fdCP fdCN fdU fdWO fdF) (T : Fns K mg fN fD fB fI fdN fdD fdB fdI) (U : Tops K mg) (B : Bt mg) : FnOk P w K mg base CX0 5 fCP fdCP ["part"] (spCkP K) := by
  have GO : FnOk P w K mg base CX0 4 fO fdO ["value"] (spOpen K) := ok_open M.FO T U B
  refine M.FCP.ok scCkP (fun vs H Q E h => ?_) (fun cdv A outer s H vs Q E hr h => ?_)
  · obtain ⟨v, d, rfl, _⟩ := h
    rfl
  · obtain ⟨v, d, rfl, hv, ho, q⟩ := h
    refine ⟨_, pss_one (ps_if (pt_not (pt_val (pe_call GO hr (by rfl) M.gO M.FO.kp M.bO .nil pass0 (pa_cons (pv 0) pa_nil)))) (pss_one ps_never) pss_nil), ?_⟩
    refine ⟨v, rfl, v, d, rfl, hv, ho.hd, fun H' s => ⟨_, rfl, ?_⟩⟩
    rw [ho.open]
    exact iteF (q _ s)
def spCkN : Sp := fun vs H Q _ => ∃ x, vs = [V.str x] ∧ nmOk x = true ∧ Q .non H
theorem ok_ckn (M : Mks K mg fO fCP fCN fU fWO fF fdO fdCP fdCN fdU fdWO fdF) (T : Fns K mg fN fD fB fI fdN fdD fdB fdI) (U : Tops K mg) (B : Bt mg) : FnOk P w K mg base CX0 2 fCN fdCN ["name"] spCkN := by
  have GN : FnOk P w K mg base CX0 1 fN fdN ["value"] (spName K) := ok_name T.FN U B
  refine M.FCN.ok scCkN (fun vs H Q E h => ?_) (fun cdv A outer s H vs Q E hr h => ?_)
  · obtain ⟨x, rfl, _⟩ := h
    rfl
  · obtain ⟨x, rfl, hx, q⟩ := h
    refine ⟨_, pss_one (ps_if (pt_not (pt_val (pe_call GN hr (by rfl) T.gN T.FN.kp T.bN .nil pass0 (pa_cons (pv 0) pa_nil)))) (pss_one ps_never) pss_nil), ?_⟩
    refine ⟨_, rfl, _, .str x, rfl, .str x, decide_eq_true (by have := nm_small hx; omega), _, rfl, ?_⟩
    rw [show (D.str x).isName = nmOk x from rfl, hx]
    exact iteF q
def spUse (K : PySem.W.Frag) : Sp := fun vs H Q _ => ∃ x, vs = [V.str x] ∧ nmOk x = true ∧ ∀ v H', Same H H' → Rdd K H' v (mkU x) → Q v H'
theorem ok_use (M : Mks K mg fO fCP fCN fU fWO fF fdO fdCP fdCN fdU fdWO fdF) (T : Fns K mg fN fD fB fI fdN fdD fdB fdI) (U : Tops K mg) (B : Bt mg) : FnOk P w K mg base CX0 3 fU fdU ["name"] (spUse K) := by
  have GN : FnOk P w K mg base CX0 2 fCN fdCN ["name"] spCkN := ok_ckn M T U B
  refine M.FU.ok scUse (fun vs H Q E h => ?_) (fun cdv A outer s H vs Q E hr h => ?_)
  · obtain ⟨x, rfl, _⟩ := h
    rfl
  · obtain ⟨x, rfl, hx, q⟩ := h
    refine ⟨_, pss_cons (ps_expr (pe_call GN hr (by rfl) M.gCN M.FCN.kp M.bCN .nil pass0 (pa_cons (pv 0) pa_nil))) (pss_one (ps_ret (pe_tup (pa_cons pe_str (pa_cons (pv 0) pa_nil))))), ?_⟩
    refine ⟨_, rfl, x, rfl, hx, _, rfl, (by show 2 ≤ sizeLine; decide), fun p np => ?_⟩
    exact q _ _ (Same.new np) (tup_val upd_same (.cons (.str _) (.cons (.str _) .nil)) (by simp))
def spWordOf (K : PySem.W.Frag) : Sp := fun vs H Q _ => ∃ x v l, vs = [V.str x, v] ∧ Rdd K H v (.tup l) ∧ nmOk x = true ∧ Okd (mkW x l) ∧ ∀ r H', Same H H' → Rdd K H' r (mkW x l) → Q r H'
theorem ok_wordof (M : Mks K mg fO fCP fCN fU fWO fF fdO fdCP fdCN fdU fdWO fdF) (T : Fns K mg fN fD fB fI fdN fdD fdB fdI) (U : Tops K mg) (B : Bt mg) : FnOk P w K mg base CX0 6 fWO fdWO ["name", "terms"] (spWordOf K) := by
  have GN : FnOk P w K mg base CX0 2 fCN fdCN ["name"] spCkN := ok_ckn M T U B
  have GP : FnOk P w K mg base CX0 5 fCP fdCP ["part"] (spCkP K) := ok_ckp M T U B
  refine M.FWO.ok scWordOf (fun vs H Q E h => ?_) (fun cdv A outer s H vs Q E hr h => ?_)
  · obtain ⟨x, v, l, rfl, _⟩ := h
    rfl
  · obtain ⟨x, v, l, rfl, hv, hx, ho, q⟩ := h
    have h2 := hr.mono (by decide : 2 ≤ 5)
    refine ⟨_, pss_cons (ps_expr (pe_call GN h2 (by rfl) M.gCN M.FCN.kp M.bCN .nil pass0 (pa_cons (pv 0) pa_nil)))
      (pss_cons (ps_set (i := 2) scWordOf.nd rfl (Or.inl rfl) (pe_tup (pa_cons pe_str (pa_cons (pv 0) (pa_cons (pv 1) pa_nil)))))
      (pss_cons (ps_expr (pe_call GP hr (by rfl) M.gCP M.FCP.kp M.bCP .nil pass0 (pa_cons (pv 2) pa_nil)))
      (pss_one (ps_ret (pv 2))))), ?_⟩
    refine ⟨_, rfl, x, rfl, hx, _, rfl, _, rfl, (by show 3 ≤ sizeLine; decide), fun p np => ?_⟩
    have sm := Same.new (o := .tup [V.str "word", .str x, v]) np
    have hp : (upd H p (.tup [V.str "word", .str x, v])) p = some (.tup [V.str "word", .str x, v]) := upd_same
    generalize upd H p (.tup [V.str "word", .str x, v]) = H1 at sm hp ⊢
    have r := tup_val (K := K) hp (.cons (.str _) (.cons (.str _) (.cons (Rdd.ex (.same sm) _ hv) .nil))) (ds := [.str "word", .str x, .tup l]) (by simp)
    refine ⟨_, rfl, .ref p, _, rfl, r, ho, fun H2 s2 => ⟨_, rfl, q _ _ (sm.trans s2) (Rdd.ex (.same s2) _ r)⟩⟩
def spFun (K : PySem.W.Frag) : Sp := fun vs H Q _ => ∃ x v b, vs = [V.str x, v] ∧ Rdd K H v b ∧ nmOk x = true ∧ Okd (mkF x b) ∧ ∀ r H', Same H H' → Rdd K H' r (mkF x b) → Q r H'
theorem ok_fun (M : Mks K mg fO fCP fCN fU fWO fF fdO fdCP fdCN fdU fdWO fdF) (T : Fns K mg fN fD fB fI fdN fdD fdB fdI) (U : Tops K mg) (B : Bt mg) : FnOk P w K mg base CX0 6 fF fdF ["variable", "term"] (spFun K) := by
  have GN : FnOk P w K mg base CX0 2 fCN fdCN ["name"] spCkN := ok_ckn M T U B
  have GP : FnOk P w K mg base CX0 5 fCP fdCP ["part"] (spCkP K) := ok_ckp M T U B
  refine M.FF.ok scFun (fun vs H Q E h => ?_) (fun cdv A outer s H vs Q E hr h => ?_)
  · obtain ⟨x, v, l, rfl, _⟩ := h
    rfl
  · obtain ⟨x, v, b, rfl, hv, hx, ho, q⟩ := h
    have h2 := hr.mono (by decide : 2 ≤ 5)
    refine ⟨_, pss_cons (ps_expr (pe_call GN h2 (by rfl) M.gCN M.FCN.kp M.bCN .nil pass0 (pa_cons (pv 0) pa_nil)))
      (pss_cons (ps_set (i := 2) scFun.nd rfl (Or.inl rfl) (pe_tup (pa_cons pe_str (pa_cons (pv 0) (pa_cons (pv 1) pa_nil)))))
      (pss_cons (ps_expr (pe_call GP hr (by rfl) M.gCP M.FCP.kp M.bCP .nil pass0 (pa_cons (pv 2) pa_nil)))
      (pss_one (ps_ret (pv 2))))), ?_⟩
    refine ⟨_, rfl, x, rfl, hx, _, rfl, _, rfl, (by show 3 ≤ sizeLine; decide), fun p np => ?_⟩
    have sm := Same.new (o := .tup [V.str "fun", .str x, v]) np
    have hp : (upd H p (.tup [V.str "fun", .str x, v])) p = some (.tup [V.str "fun", .str x, v]) := upd_same
    generalize upd H p (.tup [V.str "fun", .str x, v]) = H1 at sm hp ⊢
    have r := tup_val (K := K) hp (.cons (.str _) (.cons (.str _) (.cons (Rdd.ex (.same sm) _ hv) .nil))) (ds := [.str "fun", .str x, b]) (by simp)
    refine ⟨_, rfl, .ref p, _, rfl, r, ho, fun H2 s2 => ⟨_, rfl, q _ _ (sm.trans s2) (Rdd.ex (.same s2) _ r)⟩⟩
end
end Sl

set_option Elab.async false
set_option linter.all false
set_option maxRecDepth 100000
set_option maxHeartbeats 400000
/-! ## Comprehensions whose turns make values, and may change what J lets change -/
namespace Sl
open PySem PySem.Spec PyProof.Rows L2
structure Jr (J : Hp → Hp → Prop) : Prop where
  tr : ∀ {G G1 G2}, J G G1 → J G1 G2 → J G G2
  ex : ∀ {G G'}, J G G' → Ex G G'
  put : ∀ {G G' D o}, J G G' → G D = none → J G (upd G' D o)
  keep : ∀ {G0 G G' D l}, J G0 G → G0 D = none → J G G' → G D = some (.lst l) → G' D = some (.lst l)
theorem jr_same : Jr Same := by
  refine ⟨fun a b => a.trans b, Ex.same, fun {G G' D o} a n b x e => ?_, fun _ _ a e => a _ _ e⟩
  rw [upd_ne (ne_of_none e n)]
  exact a b x e
/-- what is made so far -/
def Accd (K : PySem.W.Frag) (J : Hp → Hp → Prop) (H1 : Hp) (D0 : Addr) (Pd : Nat → D → Prop) (i : Nat) (H : Hp) : Prop :=
  J H1 H ∧ ∃ ys ds, H D0 = some (.lst ys) ∧ RddAll K H ys ds ∧ ds.length = i ∧ ∀ j d, ds[j]? = some d → Pd j d
theorem accd_start {K : PySem.W.Frag} {J : Hp → Hp → Prop} {H1 : Hp} {D0 : Addr} {Pd : Nat → D → Prop} (jr : Jr J) (j0 : J H1 H1) (hD : H1 D0 = none) : Accd K J H1 D0 Pd 0 (upd H1 D0 (.lst [])) :=
  ⟨jr.put j0 hD, [], [], upd_same, .nil, rfl, fun j d h => by simp at h⟩
theorem RddAll.snoc {K : PySem.W.Frag} {H : Hp} {x : V} {d : D} : ∀ {xs : List V} {ds : List D}, RddAll K H xs ds → Rdd K H x d → RddAll K H (xs ++ [x]) (ds ++ [d])
  | _, _, .nil, h => .cons h .nil
  | _, _, .cons a b, h => .cons a (b.snoc h)
theorem accd_turn {K : PySem.W.Frag} {J : Hp → Hp → Prop} {H1 H H' : Hp} {D0 : Addr} {Pd : Nat → D → Prop} {i : Nat} {y : V} {d : D} (jr : Jr J) (hD : H1 D0 = none) (hi : i < 100000) (a : Accd K J H1 D0 Pd i H) (j : J H H') (r : Rdd K H' y d) (p : Pd i d) :
    ∃ acc, H' D0 = some (.lst acc) ∧ acc.length < sizeLine ∧ Accd K J H1 D0 Pd (i + 1) (upd H' D0 (.lst (acc ++ [y]))) := by
  obtain ⟨j1, ys, ds, h1, h2, h3, h4⟩ := a
  have k := jr.keep j1 hD j h1
  have sl := sizeLine_eq
  have len := h2.length
  have ex : Ex H' (upd H' D0 (.lst (ys ++ [y]))) := (Off.put (a := D0)).ex k upd_same
  refine ⟨ys, k, by omega, jr.put (jr.tr j1 j) hD, ys ++ [y], ds ++ [d], upd_same, (RddAll.ex ex _ (RddAll.ex (jr.ex j) _ h2)).snoc (Rdd.ex ex _ r), by rw [List.length_append, h3] <;> rfl, fun j2 d2 e => ?_⟩
  by_cases q : j2 < i
  · rw [List.getElem?_append_left (by omega)] at e
    exact h4 j2 d2 e
  · have e2 : j2 = i := by
      have := (List.getElem?_eq_some_iff.mp e).1
      rw [List.length_append, h3] at this
      simp at this
      omega
    subst e2
    rw [List.getElem?_append_right (by omega), h3, Nat.sub_self] at e
    cases e
    exact p
section
variable {K : PySem.W.Frag} {J : Hp → Hp → Prop} {a D0 : Addr} {xs : List V} {g : TG} {tt : TT} {te : TE} {vs : List Nat} {σ : L2.St} {H1 : Hp} {Qd : Hp → Prop} {Pd : Nat → D → Prop}
theorem lcJL (jr : Jr J) (j0 : J H1 H1) (hz : xs.length ≤ 100000) (hT : ∀ H, J H1 H → SqL K H a xs) (hD : H1 D0 = none)
    (hs : ∀ (i : Nat) (x : V) (H : Hp) (Q : VK) (Z : Hp → Prop), xs[i]? = some x → J H1 H → (∀ y H' d, J H H' → Rdd K H' y d → Pd i d → Q y H') →
      g x (wipe σ vs) H fun σ2 H2 => wipe σ2 vs = wipe σ vs ∧ tt σ2 H2 fun b H3 => if b = true then te σ2 H3 Q else Z H3)
    (hd : ∀ H ys ds, J H1 H → H D0 = some (.lst ys) → RddAll K H ys ds → ds.length = xs.length → (∀ j d, ds[j]? = some d → Pd j d) → Qd H) :
    ∃ W : Nat → Nat → Hp → Prop, (∃ m, W 0 m (upd H1 D0 (.lst []))) ∧ ∀ i m H, W i m H →
      ((Itl K a).stop i H ∧ Qd H) ∨ ((Itl K a).go i H ∧ ∃ Nx : Hp → Prop, (∀ H', Nx H' → ∃ m', m' < m ∧ W (i + 1) m' H') ∧ ∀ x H', (Itl K a).yld i H x H' → g x (wipe σ vs) H' fun σ2 H2 => wipe σ2 vs = wipe σ vs ∧ tt σ2 H2 fun b H3 =>
        if b = true then te σ2 H3 fun y H4 => ∃ acc, H4 D0 = some (.lst acc) ∧ acc.length < sizeLine ∧ Nx (upd H4 D0 (.lst (acc ++ [y]))) else Nx H3) := by
  refine lc_list (Accd K J H1 D0 Pd) (accd_start jr j0 hD) (fun i H _ h => hT H h.1) (fun i x H hx h => ?_) (fun H h => ?_)
  · have hi := (List.getElem?_eq_some_iff.mp hx).1
    exact hs i x H _ _ hx h.1 fun y H' d j r p => accd_turn jr hD (by omega) h j r p
  · obtain ⟨j1, ys, ds, h1, h2, h3, h4⟩ := h
    exact hd H ys ds j1 h1 h2 h3 h4
theorem lcJT (jr : Jr J) (j0 : J H1 H1) (hz : xs.length ≤ 100000) (hT : SqT K H1 a xs) (hD : H1 D0 = none)
    (hs : ∀ (i : Nat) (x : V) (H : Hp) (Q : VK) (Z : Hp → Prop), xs[i]? = some x → J H1 H → (∀ y H' d, J H H' → Rdd K H' y d → Pd i d → Q y H') →
      g x (wipe σ vs) H fun σ2 H2 => wipe σ2 vs = wipe σ vs ∧ tt σ2 H2 fun b H3 => if b = true then te σ2 H3 Q else Z H3)
    (hd : ∀ H ys ds, J H1 H → H D0 = some (.lst ys) → RddAll K H ys ds → ds.length = xs.length → (∀ j d, ds[j]? = some d → Pd j d) → Qd H) :
    ∃ W : Nat → Nat → Hp → Prop, (∃ m, W 0 m (upd H1 D0 (.lst []))) ∧ ∀ i m H, W i m H →
      ((Itt K a).stop i H ∧ Qd H) ∨ ((Itt K a).go i H ∧ ∃ Nx : Hp → Prop, (∀ H', Nx H' → ∃ m', m' < m ∧ W (i + 1) m' H') ∧ ∀ x H', (Itt K a).yld i H x H' → g x (wipe σ vs) H' fun σ2 H2 => wipe σ2 vs = wipe σ vs ∧ tt σ2 H2 fun b H3 =>
        if b = true then te σ2 H3 fun y H4 => ∃ acc, H4 D0 = some (.lst acc) ∧ acc.length < sizeLine ∧ Nx (upd H4 D0 (.lst (acc ++ [y]))) else Nx H3) := by
  refine lc_tup (Accd K J H1 D0 Pd) (accd_start jr j0 hD) (fun i H _ h => (jr.ex h.1).tup hT) (fun i x H hx h => ?_) (fun H h => ?_)
  · have hi := (List.getElem?_eq_some_iff.mp hx).1
    exact hs i x H _ _ hx h.1 fun y H' d j r p => accd_turn jr hD (by omega) h j r p
  · obtain ⟨j1, ys, ds, h1, h2, h3, h4⟩ := h
    exact hd H ys ds j1 h1 h2 h3 h4
theorem lcJR {lo : Int} {n : Nat} (jr : Jr J) (j0 : J H1 H1) (hz : n ≤ 100000) (hD : H1 D0 = none)
    (hs : ∀ (i : Nat) (H : Hp) (Q : VK) (Z : Hp → Prop), i < n → J H1 H → (∀ y H' d, J H H' → Rdd K H' y d → Pd i d → Q y H') →
      g (.int (lo + i)) (wipe σ vs) H fun σ2 H2 => wipe σ2 vs = wipe σ vs ∧ tt σ2 H2 fun b H3 => if b = true then te σ2 H3 Q else Z H3)
    (hd : ∀ H ys ds, J H1 H → H D0 = some (.lst ys) → RddAll K H ys ds → ds.length = n → (∀ j d, ds[j]? = some d → Pd j d) → Qd H) :
    ∃ W : Nat → Nat → Hp → Prop, (∃ m, W 0 m (upd H1 D0 (.lst []))) ∧ ∀ i m H, W i m H →
      ((Itr lo n).stop i H ∧ Qd H) ∨ ((Itr lo n).go i H ∧ ∃ Nx : Hp → Prop, (∀ H', Nx H' → ∃ m', m' < m ∧ W (i + 1) m' H') ∧ ∀ x H', (Itr lo n).yld i H x H' → g x (wipe σ vs) H' fun σ2 H2 => wipe σ2 vs = wipe σ vs ∧ tt σ2 H2 fun b H3 =>
        if b = true then te σ2 H3 fun y H4 => ∃ acc, H4 D0 = some (.lst acc) ∧ acc.length < sizeLine ∧ Nx (upd H4 D0 (.lst (acc ++ [y]))) else Nx H3) := by
  refine lc_range (Accd K J H1 D0 Pd) (accd_start jr j0 hD) (fun i H hi h => ?_) (fun H h => ?_)
  · exact hs i H _ _ hi h.1 fun y H' d j r p => accd_turn jr hD (by omega) h j r p
  · obtain ⟨j1, ys, ds, h1, h2, h3, h4⟩ := h
    exact hd H ys ds j1 h1 h2 h3 h4
end
/-- for k in d, d under its lock -/
theorem forK {d : Addr} {o : Obj} {kvs : List (Key × V)} {g : TG} {tb : TS} {D : Ends} {σ : L2.St} {H : Hp} (Pv : Nat → L2.St → Hp → Prop) (h0 : Pv 0 σ H) (hl : ∀ i σ H, i ≤ kvs.length → Pv i σ H → H d = some (.frz o (.dK kvs)))
    (hs : ∀ i k v σ H, kvs[i]? = some (k, v) → Pv i σ H → g (kV k) σ H fun σ2 H2 => tb { D with nx := Pv (i + 1), ct := Pv (i + 1), bk := D.nx } σ2 H2) (hd : ∀ σ H, Pv kvs.length σ H → D.nx σ H) :
    ∃ W : Nat → Nat → L2.St → Hp → Prop, (∃ m, W 0 m σ H) ∧ ∀ i m σ H, W i m σ H →
      ((Itk d o kvs).stop i H ∧ D.nx σ H) ∨ ((Itk d o kvs).go i H ∧ ∃ N : L2.St → Hp → Prop, (∀ σ' H', N σ' H' → ∃ m', m' < m ∧ W (i + 1) m' σ' H') ∧ ∀ x H', (Itk d o kvs).yld i H x H' → g x σ H' fun σ2 H2 => tb { D with nx := N, ct := N, bk := D.nx } σ2 H2) := by
  refine ⟨fun i m σ H => m = kvs.length - i ∧ i ≤ kvs.length ∧ Pv i σ H, ⟨kvs.length, by simp, Nat.zero_le _, h0⟩, ?_⟩
  rintro i m σ H ⟨rfl, hi, p⟩
  have q := hl i σ H hi p
  by_cases lt : i < kvs.length
  · refine .inr ⟨⟨q, lt⟩, Pv (i + 1), fun σ' H' p' => ⟨kvs.length - (i + 1), by omega, rfl, lt, p'⟩, fun x H' y => ?_⟩
    obtain ⟨rfl, k, v, e, rfl⟩ := y
    exact hs i k v σ _ e p
  · have e : i = kvs.length := by omega
    subst e
    exact .inl ⟨⟨q, Nat.le_refl _⟩, hd σ H p⟩
theorem upd_back {H : Hp} {d : Addr} {u v : HO} (h : H d = some u) : upd (upd H d v) d u = H := by
  funext b
  by_cases e : b = d
  · subst e
    rw [upd_same, h]
  · rw [upd_ne e, upd_ne e]
end Sl

set_option Elab.async false
set_option linter.all false
set_option maxRecDepth 100000
set_option maxHeartbeats 400000
namespace Sl
open PySem PySem.Spec PyProof.Rows L2
theorem scLetOf : FnScope ["term", "definitions", "name", "pairs", "made"] ["term", "definitions"] (defScope sLetOf) := ⟨rfl, rfl, rfl, by decide +kernel, rfl, by decide +kernel, by decide +kernel⟩
/-- a dict of definitions -/
def DefD (K : PySem.W.Frag) (H : Hp) (a : Addr) (ps : List (Str × D)) : Prop := ∃ kvs : List (Key × V), H a = some (.dK kvs) ∧ kvs.map (·.1) = ps.map (fun p => Sum.inr p.1) ∧ RddAll K H (kvs.map (·.2)) (ps.map (·.2))
theorem DefD.same {K : PySem.W.Frag} {H H' : Hp} {a : Addr} {ps : List (Str × D)} (h : DefD K H a ps) (s : Same H H') : DefD K H' a ps := by
  obtain ⟨kvs, h1, h2, h3⟩ := h
  exact ⟨kvs, s _ _ h1, h2, RddAll.ex (.same s) _ h3⟩
theorem valV_at : ∀ {kvs : List (Key × V)} {ps : List (Str × D)} {K : PySem.W.Frag} {H : Hp}, kvs.map (·.1) = ps.map (fun p => (Sum.inr p.1 : Key)) → RddAll K H (kvs.map (·.2)) (ps.map (·.2)) → (ps.map (·.1)).Nodup → ∀ p ∈ ps, ∃ v, valV kvs (Sum.inr p.1) = some v ∧ Rdd K H v p.2
  | [], [], _, _, _, _, _, _, hp => absurd hp (by simp)
  | [], _ :: _, _, _, e, _, _, _, _ => by cases e
  | _ :: _, [], _, _, e, _, _, _, _ => by cases e
  | (k, v) :: kvs, q :: ps, K, H, e, r, n, p, hp => by
    have e1 : k = Sum.inr q.1 := (List.cons.inj e).1
    have e2 := (List.cons.inj e).2
    subst e1
    cases r with
    | cons r1 r2 =>
      have n' := List.nodup_cons.mp n
      rcases List.mem_cons.mp hp with rfl | hp
      · exact ⟨v, by simp [valV], r1⟩
      · obtain ⟨u, hu, ru⟩ := valV_at e2 r2 n'.2 p hp
        have ne : p.1 ≠ q.1 := fun z => n'.1 (List.mem_map.mpr ⟨p, hp, z⟩)
        refine ⟨u, ?_, ru⟩
        rw [← hu]
        have hk : ¬ ((Sum.inr q.1 : Key) = Sum.inr p.1) := fun z => ne (Sum.inr.inj z).symm
        simp [valV, hk]
section
variable {P : Program} {w : World} {K : PySem.W.Frag} {mg : Str → Option Value} {base : Heap} {fN fD fB fI : Addr} {fdN fdD fdB fdI : FuncData} {fO fCP fCN fU fWO fF : Addr} {fdO fdCP fdCN fdU fdWO fdF : FuncData} {fLO : Addr} {fdLO : FuncData}
theorem Okd.inn {d e : D} (h : Okd d) (he : e ∈ inn d) : Okd e := by
  obtain ⟨n, h1, h2, h3⟩ := h
  cases n with
  | zero => exact h2.elim
  | succ n =>
    have := cnt_mem (n := n) he
    exact ⟨n, by omega, (OpN.s.mp h2).2 e he, by omega⟩
def spLetOf (K : PySem.W.Frag) : Sp := fun vs H Q _ => ∃ v b a ps, vs = [v, .ref a] ∧ Rdd K H v b ∧ DefD K H a ps ∧ ps.length < 64 ∧ DefOk ps ∧ Okd (mkL (srtP ps) b) ∧ ∀ r H', Same H H' → Rdd K H' r (mkL (srtP ps) b) → Q r H'
theorem ok_letof (F : Fun K "let_of" "let_of" sLetOf fLO fdLO) (M : Mks K mg fO fCP fCN fU fWO fF fdO fdCP fdCN fdU fdWO fdF) (T : Fns K mg fN fD fB fI fdN fdD fdB fdI) (U : Tops K mg) (B : Bt mg) : FnOk P w K mg base CX0 6 fLO fdLO ["term", "definitions"] (spLetOf K) := by
  have GN : FnOk P w K mg base CX0 2 fCN fdCN ["name"] spCkN := ok_ckn M T U B
  have GP : FnOk P w K mg base CX0 5 fCP fdCP ["part"] (spCkP K) := ok_ckp M T U B
  refine F.ok scLetOf (fun vs H Q E h => ?_) (fun cdv A outer s H vs Q E hr h => ?_)
  · obtain ⟨v, b, a, ps, rfl, _⟩ := h
    rfl
  · obtain ⟨v, b, a, ps, rfl, hv, ⟨kvs, ha, hk, hvs⟩, h64, hd, ho, q⟩ := h
    have h2 := hr.mono (by decide : 2 ≤ 5)
    have hu := hu_of hr
    refine ⟨_, pss_cons (ps_expr (pe_call GP hr (by rfl) M.gCP M.FCP.kp M.bCP .nil pass0 (pa_cons (pv 0) pa_nil)))
      (pss_cons (ps_if (pt_not (pt_val (pe_callB call_isi (by rfl) B.isi (by decide +kernel) (pa_cons (pv 1) (pa_cons (pe_bltn (v := .ty "dict") (by rfl) B.dict (by decide +kernel) rfl) pa_nil))))) (pss_one ps_never) pss_nil)
      (pss_cons (ps_lock (ps_for PassesOwn.never rfl (pi_keys (pv 1)) (pg_name (i := 2) scLetOf.nd rfl (Or.inl rfl))
        (pss_one (ps_expr (pe_call GN h2 (by rfl) M.gCN M.FCN.kp M.bCN .nil pass0 (pa_cons (pv 2) pa_nil))))))
      (pss_cons (ps_setLc (i := 3) (own := [("name", 2)]) (g := gName 2) (tt := tYes) (te := tTup (tCons (tVar 2) (tCons (tDGet (tVar 1) (tVar 2)) tNil))) rfl scLetOf.nd rfl rfl (sw_true rfl rfl rfl (by decide +kernel)) (pi_list (pe_callB (call_sortedD rfl) (by rfl) B.sorted (by decide +kernel) (pa_cons (pv 1) pa_nil)))
        (blkOk_by (own := [("name", 2)]) (N := ["term", "definitions", "name", "pairs", "made"]) (sc := defScope sLetOf) (by decide +kernel))
        (fun _ _ _ _ _ => pg_name (i := 2) scLetOf.nd rfl (Or.inl rfl)) (fun _ _ _ _ _ => pts_nil) (fun _ _ _ _ _ => by exact pe_tup (pa_cons (pv 2) (pa_cons (pe_dget hu (pv 1) (pv 2) (fun _ _ => rfl)) pa_nil))))
      (pss_cons (ps_set (i := 4) scLetOf.nd rfl (Or.inl rfl) (pe_tup (pa_cons pe_str (pa_cons (pe_callTy call_tuple_of (by rfl) B.tuple (by decide +kernel) (pa_cons (pv 3) pa_nil)) (pa_cons (pv 0) pa_nil)))))
      (pss_cons (ps_expr (pe_call GP hr (by rfl) M.gCP M.FCP.kp M.bCP .nil pass0 (pa_cons (pv 4) pa_nil)))
      (pss_one (ps_ret (pv 4)))))))), ?_⟩
    have hb : Okd b := ho.inn (by rw [inn_L]; exact List.mem_append_right _ (List.mem_singleton.mpr rfl))
    have lk : kvs.length = ps.length := by
      have := congrArg List.length hk
      rwa [List.length_map, List.length_map] at this
    refine ⟨v, rfl, v, b, rfl, hv, hb, fun H1 s1 => ?_⟩
    have ha1 := s1 _ _ ha
    refine ⟨.ref a, rfl, .ref a, .ty "dict", _, _, true, rfl, .ty _, .base (.dK ha1), kit_ty (by decide +kernel), _, rfl, iteF ?_⟩
    refine ⟨a, _, ha1, trivial, fun od => ⟨.ref a, rfl, a, od, rfl, .inl ⟨kvs, upd_same, ?_⟩⟩⟩
    refine forK (fun i σ' H' => H' = upd H1 a (.frz od (.dK kvs)) ∧ ∃ y, σ' = [some v, some (.ref a), y, none, none]) ⟨rfl, none, rfl⟩ ?_ ?_ ?_
    · rintro i σ' H' _ ⟨rfl, _⟩
      exact upd_same
    · rintro i k u σ' H' he ⟨rfl, y, rfl⟩
      have e2 : (kvs.map (·.1))[i]? = some k := by rw [List.getElem?_map, he] <;> rfl
      rw [hk, List.getElem?_map] at e2
      obtain ⟨p, hp, rfl⟩ := Option.map_eq_some_iff.mp e2
      exact ⟨_, rfl, p.1, rfl, hd.2.2.1 p (List.mem_of_getElem? hp), rfl, _, rfl⟩
    · rintro σ' H' ⟨rfl, y, rfl⟩
      refine ⟨upd_same, ?_⟩
      rw [upd_back ha1]
      refine ⟨.ref a, rfl, a, kvs, ps.map (·.1), rfl, .inl ha1, by rw [hk, List.map_map]; rfl, by rw [List.length_map]; exact h64, fun ys p hp hs np => ?_⟩
      have s2 := Same.new (o := .lst (ys.map V.str)) np
      have hl : (upd H1 p (.lst (ys.map V.str))) p = some (.lst (ys.map V.str)) := upd_same
      generalize upd H1 p (.lst (ys.map V.str)) = H2 at s2 hl ⊢
      have s12 := s1.trans s2
      have ey := srt_names hd.2.2.2 hp hs
      subst ey
      have lq : (srtP ps).length = ps.length := (srtP_perm ps).length_eq
      have rv := RddAll.ex (.same s12) _ hvs
      have ha2 := s12 _ _ ha
      refine ⟨p, rfl, ⟨_, SqL.of hl⟩, fun D0 nD => lcJL (J := Same) (Pd := fun i d => ∃ p, (srtP ps)[i]? = some p ∧ d = .tup [.str p.1, p.2]) jr_same (Same.refl _) (by rw [List.length_map, List.length_map]; omega) (fun H' s' => SqL.of (s' _ _ hl)) nD ?_ ?_⟩
      · intro i x H3 Q3 Z3 hx s3 hQ
        rw [List.getElem?_map, List.getElem?_map] at hx
        obtain ⟨y1, hy1, rfl⟩ := Option.map_eq_some_iff.mp hx
        obtain ⟨r, hr1, rfl⟩ := Option.map_eq_some_iff.mp hy1
        obtain ⟨u, hu1, ru⟩ := valV_at hk rv hd.2.2.2 r ((srtP_perm ps).mem_iff.mp (List.mem_of_getElem? hr1))
        refine ⟨rfl, ?_⟩
        refine iteT (B := Z3 H3) ⟨_, rfl, .ref a, rfl, _, rfl, a, u, rfl, ?_, (by show 2 ≤ sizeLine; decide), fun t nt => ?_⟩
        · have g := DGet.k (k := Sum.inr r.1) (s3 _ _ ha2)
          rw [hu1] at g
          exact g
        · have st := Same.new (o := .tup [V.str r.1, u]) nt
          exact hQ _ _ _ st (tup_val upd_same (.cons (.str _) (.cons (Rdd.ex (.same (s3.trans st)) _ ru) .nil)) (by simp)) ⟨r, hr1, rfl⟩
      · intro H3 zs ds s3 hD3 rz lz hds
        have ed : ds = mkPs (srtP ps) := by
          refine List.ext_getElem? fun i => ?_
          unfold mkPs
          rw [List.getElem?_map]
          cases e : ds[i]? with
          | some d =>
            obtain ⟨r, h1, h2⟩ := hds i d e
            rw [h1, h2]
            rfl
          | none =>
            have h1 := List.getElem?_eq_none_iff.mp e
            rw [lz, List.length_map, List.length_map] at h1
            rw [List.getElem?_eq_none_iff.mpr h1]
            rfl
        subst ed
        refine ⟨_, rfl, D0, zs, rfl, .inl ⟨SqL.of hD3, fun t nt => ?_⟩⟩
        have st := Same.new (o := .tup zs) nt
        have ht : (upd H3 t (.tup zs)) t = some (.tup zs) := upd_same
        generalize upd H3 t (.tup zs) = H4 at st ht ⊢
        refine ⟨v, rfl, (by show 3 ≤ sizeLine; decide), fun m nm => ?_⟩
        have sm := Same.new (o := .tup [V.str "let", .ref t, v]) nm
        have hm : (upd H4 m (.tup [V.str "let", .ref t, v])) m = some (.tup [V.str "let", .ref t, v]) := upd_same
        generalize upd H4 m (.tup [V.str "let", .ref t, v]) = H5 at sm hm ⊢
        have s35 := st.trans sm
        have s5 := (s12.trans s3).trans s35
        have lm : (mkPs (srtP ps)).length = ps.length := by rw [show (mkPs (srtP ps)).length = (srtP ps).length from List.length_map .., lq]
        have r1 : Rdd K H5 (.ref t) (.tup (mkPs (srtP ps))) := tup_val (sm _ _ ht) (RddAll.ex (.same s35) _ rz) (by omega)
        have r : Rdd K H5 (.ref m) (mkL (srtP ps) b) := tup_val hm (.cons (.str _) (.cons r1 (.cons (Rdd.ex (.same s5) _ hv) .nil))) (by simp)
        refine ⟨_, rfl, .ref m, _, rfl, r, ho, fun H6 s6 => ⟨_, rfl, q _ _ (s5.trans s6) (Rdd.ex (.same s6) _ r)⟩⟩
end
end Sl

set_option Elab.async false
set_option linter.all false
set_option maxRecDepth 100000
set_option maxHeartbeats 400000
namespace Sl
open PySem PySem.Spec PyProof.Rows L2 StX
theorem scWord : FnScope ["name", "terms"] ["name", "terms"] (defScope sWord) := ⟨rfl, rfl, rfl, by decide +kernel, rfl, by decide +kernel, by decide +kernel⟩
/-- f(e, ..), f of a promise of what stands in the call's places -/
theorem pe_callR {X : Cx} {CX : CXT} {k : Nat} {f : Addr} {sp : Sp} {E : XK} {x : Str} {p pos : Pos} {e : Expr} {es : List Expr} {t : TA} (F : FnR X.prog X.w X.K X.mg X.base CX k f sp) (hr : Room k X.A) (hk : PySem.W.keepIn X.K (.ref f) = true) (hg : Gl X x) (hm : X.mg x = some (.ref f)) (hx : Passes CX X E) (ha : PA X (e :: es) t)
    (hd : (x == ("__debug__" : Str)) = false := by decide) (he : starEach (e :: es) X.env = (false, eval e X.env) :: starEach es X.env := by rfl) (hpl : (backTo pos (starEach es X.env)).any (·.1) = false := by rfl) :
    PE X (.Call (.Name x p) (e :: es) [] pos) (fun σ H Q => t σ H fun vs H1 => sp vs H1 Q E) := by
  constructor
  intro pins z σ H Q I h
  apply wpAny_Call_Name_kw (ld_glob I hg hm ?_ hd)
  apply PySem.W.callWith_K (h₀ := X.base) I.ok.mod.kin hk ?_ he hpl
  exact thn (ha.run pos pins z σ H _ I h) fun us z1 ⟨xs, G1, I1, r, q⟩ => ⟨I1.kIn, wpAny_call (run_fnR F hr hx I1 r q)⟩
section
variable {P : Program} {w : World} {K : PySem.W.Frag} {mg : Str → Option Value} {base : Heap} {fN fD fB fI : Addr} {fdN fdD fdB fdI : FuncData} {fO fCP fCN fU fWO fF : Addr} {fdO fdCP fdCN fdU fdWO fdF : FuncData} {fWd : Addr} {fdWd : FuncData}
def spWord2 (K : PySem.W.Frag) : Sp := spWordOf K
def spWord (K : PySem.W.Frag) : Sp := fun vs H Q _ => ∃ x us l, vs = V.str x :: us ∧ RddAll K H us l ∧ l.length ≤ 3 ∧ nmOk x = true ∧ Okd (mkW x l) ∧ ∀ r H', Same H H' → Rdd K H' r (mkW x l) → Q r H'
theorem ok_word (F : Fun K "word" "word" sWord fWd fdWd) (M : Mks K mg fO fCP fCN fU fWO fF fdO fdCP fdCN fdU fdWO fdF) (T : Fns K mg fN fD fB fI fdN fdD fdB fdI) (U : Tops K mg) (B : Bt mg) : FnR P w K mg base CX0 7 fWd (spWord K) := by
  have GW : FnOk P w K mg base CX0 6 fWO fdWO ["name", "terms"] (spWordOf K) := ok_wordof M T U B
  obtain ⟨oc, od, kV, doc, pm, an, cdv, ct, osl, rfl, lk, hcd⟩ := F.ex
  have R := fn_star (P := P) (w := w) (mg := mg) (base := base) (CX := CX0) (k := 6) (sp := spWordOf K) (ps := ["name"]) (pv := "terms") (N := ["name", "terms"]) lk hcd scWord cxUp_none (bind_star1 (B := fun us => bindArgs (PySem.W.fnOf "word" "word" (defArgs sWord) (defBody sWord) (defScope sWord) .none kV doc pm an cdv ct) ⟨us, []⟩) (p1 := "name") (pv := "terms") (fun a => by rfl) (fun a r rs => by rfl)) (fun A outer s H vs Q E hr h => by
    obtain ⟨x, v, l, rfl, hv, hx, ho, q⟩ := h
    refine ⟨_, pss_one (ps_ret (pe_call GW hr (by rfl) M.gWO M.FWO.kp M.bWO .nil pass0 (pa_cons (pv 0) (pa_cons (pv 1) pa_nil)))), ?_⟩
    exact ⟨_, rfl, v, rfl, x, v, l, rfl, hv, hx, ho, q⟩)
  refine R.imp fun vs H Q E h => ?_
  obtain ⟨x, us, l, rfl, hu, hl, hx, ho, q⟩ := h
  have lu := hu.length
  have sl := sizeLine_eq
  refine ⟨[V.str x], us, rfl, rfl, by omega, fun p np => ?_⟩
  have st := Same.new (o := .tup us) np
  exact ⟨x, .ref p, l, rfl, tup_val upd_same (RddAll.ex (.same st) _ hu) (by omega), hx, ho, fun r H' s r' => q r H' (st.trans s) r'⟩
end
end Sl

set_option Elab.async false
set_option linter.all false
set_option maxRecDepth 100000
set_option maxHeartbeats 400000
namespace Sl
open PySem PySem.Spec PyProof.Rows L2
abbrev sStream : Stmt := topT 26
abbrev sDraw : Stmt := topT 27
abbrev sPick : Stmt := topT 28
theorem scStream : FnScope ["_law_script", "_law_at", "_law_cell", "_law_great", "_law_mixed_here"] ["_law_script", "_law_at"] (defScope sStream) := ⟨rfl, rfl, rfl, by decide +kernel, rfl, by decide +kernel, by decide +kernel⟩
theorem scDraw : FnScope ["_law_stream_here", "_law_high", "_law_found", "_law_one", "_law_two"] ["_law_stream_here", "_law_high"] (defScope sDraw) := ⟨rfl, rfl, rfl, by decide +kernel, rfl, by decide +kernel, by decide +kernel⟩
theorem scPick : FnScope ["_law_stream_here", "_law_items"] ["_law_stream_here", "_law_items"] (defScope sPick) := ⟨rfl, rfl, rfl, by decide +kernel, rfl, by decide +kernel, by decide +kernel⟩
/-- a stream of draws stands at a -/
def Stm (a : Addr) (H : Hp) : Prop := ∃ g m c : Int, H a = some (.lst [.int g, .int m, .int c]) ∧ 0 ≤ g ∧ g.natAbs < 2 ^ 2000
theorem Stm.lst {a : Addr} {H : Hp} (h : Stm a H) : ∃ l, H a = some (.lst l) := by
  obtain ⟨g, m, c, e, _⟩ := h
  exact ⟨_, e⟩
theorem Off.ex' {a : Addr} {G G' : Hp} (h : Off a G G') (h1 : Stm a G) (h2 : Stm a G') : Ex G G' := by
  obtain ⟨l, e⟩ := h1.lst
  obtain ⟨l', e'⟩ := h2.lst
  exact h.ex e e'
theorem Stm.off {a b : Addr} {G G' : Hp} (h : Stm a G) (n : a ≠ b) (o : Off b G G') : Stm a G' := by
  obtain ⟨g, m, c, e, r⟩ := h
  exact ⟨g, m, c, o _ _ n e, r⟩
theorem Stm.same {a : Addr} {G G' : Hp} (h : Stm a G) (o : Same G G') : Stm a G' := by
  obtain ⟨g, m, c, e, r⟩ := h
  exact ⟨g, m, c, o _ _ e, r⟩
theorem op_powW {X : Cx} : OpR X (binaryOp .Pow) (rI (fun i j => 0 ≤ j ∧ (Builtin.Int.intBits i : Int) * j ≤ 2 ^ 27) fun i j => .int (i ^ j.toNat)) := opI fun _ _ _ _ _ _ _ hc q => pow_int hc.1 hc.2 q
section
variable {P : Program} {w : World} {K : PySem.W.Frag} {mg : Str → Option Value} {base : Heap}
def spDraw : Sp := fun vs H Q _ => ∃ (a : Addr) (n : Int), vs = [.ref a, .int n] ∧ Stm a H ∧ 1 ≤ n ∧ n.natAbs < 2 ^ 2000 ∧ ∀ r H', 0 ≤ r → r < n → Off a H H' → Stm a H' → Q (.int r) H'
theorem ok_draw {f : Addr} {fd : FuncData} (F : Fun K "_law_draw" "_law_draw" sDraw f fd) (B : Bt mg) : FnOk P w K mg base CX0 1 f fd ["_law_stream_here", "_law_high"] spDraw := by
  refine F.ok scDraw (fun vs H Q E h => ?_) (fun cdv A outer s H vs Q E hr h => ?_)
  · obtain ⟨a, n, rfl, _⟩ := h
    rfl
  · obtain ⟨a, n, rfl, ⟨g, m, c, ha, g0, g1⟩, n1, n2, q⟩ := h
    refine ⟨_, (pss_cons (ps_if (pt_cmpR op_gt (pe_ix ix_list (pv 0) pe_int (fun _ _ => rfl)) pe_int (nomark _))
        (pss_cons (ps_set (i := 2) scDraw.nd rfl (Or.inl rfl) (pe_op op_mod (pe_callTy call_int1 (by rfl) B.int (by decide +kernel) (pa_cons (pe_ix ix_list (pv 0) pe_int (fun _ _ => rfl)) pa_nil)) (pv 1)))
      (pss_cons (ps_asg (pe_op op_fdivW (pe_ix ix_list (pv 0) pe_int (fun _ _ => rfl)) (pv 1)) (pg_sub (pv 0) pe_int set_list))
      (pss_one (ps_ret (pv 2)))))
        pss_nil)
      (pss_cons (ps_asg (pe_op op_add (pe_ix ix_list (pv 0) pe_int (fun _ _ => rfl)) pe_int) (pg_sub (pv 0) pe_int set_list))
      (pss_cons (ps_set (i := 3) scDraw.nd rfl (Or.inl rfl) (pe_op op_mod (pe_callTy call_int1 (by rfl) B.int (by decide +kernel) (pa_cons (pe_op op_add (pe_ix ix_list (pv 0) pe_int (fun _ _ => rfl)) (pe_op op_mul pe_int (pe_ix ix_list (pv 0) pe_int (fun _ _ => rfl)))) pa_nil)) pe_int))
      (pss_cons (ps_set (i := 4) scDraw.nd rfl (Or.inl rfl) (pe_op op_add (pe_op op_mul (pe_op op_mod (pe_callTy call_int1 (by rfl) B.int (by decide +kernel) (pa_cons (pe_op op_mul (pv 3) (pv 3)) pa_nil)) pe_int) (pv 3)) (pe_op op_mul pe_int (pe_ix ix_list (pv 0) pe_int (fun _ _ => rfl)))))
      (pss_cons (ps_set (i := 4) scDraw.nd rfl (Or.inl rfl) (pe_op op_mod (pe_callTy call_int1 (by rfl) B.int (by decide +kernel) (pa_cons (pv 4) pa_nil)) pe_int))
      (pss_one (ps_ret (pe_op op_mod (pe_callTy call_int1 (by rfl) B.int (by decide +kernel) (pa_cons (pe_op op_fdivW (pv 4) pe_int) pa_nil)) (pv 1))))))))), ?_⟩
    refine ⟨.ref a, rfl, a, _, 0, _, rfl, rfl, SqL.of ha, atI_nat (j := 0) rfl, _, _, rfl, rfl, _, rfl, ite2 (fun e => ?_) (fun e => ?_)⟩
    · -- a great number
      refine ⟨.ref a, rfl, a, _, 0, _, rfl, rfl, SqL.of ha, atI_nat (j := 0) rfl, .inl ⟨g, rfl, .int n, rfl, _, _, rfl, rfl, by omega, ?_⟩⟩
      refine ⟨.ref a, rfl, a, _, 0, _, rfl, rfl, SqL.of ha, atI_nat (j := 0) rfl, .int n, rfl, _, _, rfl, rfl, wide_div (b := 2000) (by omega) n2 (by decide) (by decide), ?_⟩
      refine ⟨.ref a, rfl, a, _, 0, 0, rfl, rfl, ha, rfl, .int (g % n), rfl, ?_⟩
      refine q _ _ (Int.emod_nonneg _ (by omega)) (Int.emod_lt_of_pos _ (by omega)) .put ⟨g / n, m, c, upd_same, Int.ediv_nonneg g0 (by omega), ?_⟩
      have h1 : g / n ≤ g := Int.ediv_le_self n g0
      have h2 : 0 ≤ g / n := Int.ediv_nonneg g0 (by omega)
      omega
    · -- the walk of small numbers
      refine ⟨.ref a, rfl, a, _, 2, _, rfl, rfl, SqL.of ha, atI_nat (j := 2) rfl, _, _, rfl, rfl, .ref a, rfl, a, _, 2, 2, rfl, rfl, ha, rfl, ?_⟩
      have ha2 : (upd H a (.lst ([V.int g, .int m, .int c].set 2 (.int (c + 1))))) a = some (.lst [V.int g, .int m, .int (c + 1)]) := upd_same
      generalize hG : (upd H a (.lst ([V.int g, .int m, .int c].set 2 (.int (c + 1))))) = G at ha2 ⊢
      refine ⟨.ref a, rfl, a, _, 1, _, rfl, rfl, SqL.of ha2, atI_nat (j := 1) rfl, .ref a, rfl, a, _, 2, _, rfl, rfl, SqL.of ha2, atI_nat (j := 2) rfl, _, _, rfl, rfl, .inl (by decide), _, _, rfl, rfl, .inl ⟨_, rfl, _, _, rfl, rfl, (by show (0 : Int) < 2305843009213693951; decide), ?_⟩⟩
      dsimp only
      generalize hx : (m + 1000303 * (c + 1)) % 2305843009213693951 = x
      have x0 : 0 ≤ x := by rw [← hx]; exact Int.emod_nonneg _ (by decide)
      have x1 : x < 2305843009213693951 := by rw [← hx]; exact Int.emod_lt_of_pos _ (by decide)
      refine ⟨.int x, rfl, .int x, rfl, _, _, rfl, rfl, .inl (by omega), .inl ⟨_, rfl, _, _, rfl, rfl, (by show (0 : Int) < 2305843009213693921; decide), ?_⟩⟩
      refine ⟨.int x, rfl, _, _, rfl, rfl, .inr (by omega), .ref a, rfl, a, _, 2, _, rfl, rfl, SqL.of ha2, atI_nat (j := 2) rfl, _, _, rfl, rfl, .inl (by decide), _, _, rfl, rfl, ?_⟩
      dsimp only
      generalize (x * x) % 2305843009213693921 * x + 6911 * (c + 1) = y
      refine ⟨.int y, rfl, .inl ⟨_, rfl, _, _, rfl, rfl, (by show (0 : Int) < 2305843009213693907; decide), ?_⟩⟩
      dsimp only
      generalize y % 2305843009213693907 = z
      refine ⟨.int z, rfl, _, _, rfl, rfl, wide_div (b := 14) (by decide) (by decide) (by decide) (by decide), .inl ⟨_, rfl, .int n, rfl, _, _, rfl, rfl, by omega, ?_⟩⟩
      subst hG
      exact q _ _ (Int.emod_nonneg _ (by omega)) (Int.emod_lt_of_pos _ (by omega)) .put ⟨g, m, c + 1, upd_same, g0, g1⟩
theorem sqL_off {a l : Addr} {G G' : Hp} {xs : List V} (h : SqL K G l xs) (n : l ≠ a) (o : Off a G G') : SqL K G' l xs := by
  rcases h with (h | ⟨ob, h⟩) | h
  · exact .inl (.inl (o _ _ n h))
  · exact .inl (.inr ⟨ob, o _ _ n h⟩)
  · exact .inr h
theorem small_big {n : Nat} (h : n ≤ 100000) : n < 2 ^ 2000 := Nat.lt_of_le_of_lt h (Nat.lt_of_lt_of_le (by decide : 100000 < 2 ^ 20) (Nat.pow_le_pow_right (by decide) (by decide)))
def spPick (K : PySem.W.Frag) : Sp := fun vs H Q _ => ∃ (a l : Addr) (xs : List V), vs = [.ref a, .ref l] ∧ Stm a H ∧ l ≠ a ∧ SqL K H l xs ∧ 1 ≤ xs.length ∧ xs.length ≤ 100000 ∧
  ∀ (i : Nat) x H', xs[i]? = some x → Off a H H' → Stm a H' → Q x H'
theorem ok_pick {f fD : Addr} {fd fdD : FuncData} (F : Fun K "_law_pick" "_law_pick" sPick f fd) (FD : Fun K "_law_draw" "_law_draw" sDraw fD fdD) (bD : Binds K fdD ["_law_stream_here", "_law_high"] []) (gD : mg "_law_draw" = some (.ref fD)) (B : Bt mg) :
    FnOk P w K mg base CX0 2 f fd ["_law_stream_here", "_law_items"] (spPick K) := by
  have GD : FnOk P w K mg base CX0 1 fD fdD ["_law_stream_here", "_law_high"] spDraw := ok_draw FD B
  refine F.ok scPick (fun vs H Q E h => ?_) (fun cdv A outer s H vs Q E hr h => ?_)
  · obtain ⟨a, l, xs, rfl, _⟩ := h
    rfl
  · obtain ⟨a, l, xs, rfl, hs, hne, hl, z1, z2, q⟩ := h
    refine ⟨_, (pss_one (ps_ret (pe_ix ix_list (pv 1) (pe_call GD hr (by rfl) gD FD.kp bD .nil pass0 (pa_cons (pv 0) (pa_cons (pe_callB call_len_seq (by rfl) B.len PySem.boot_len (pa_cons (pv 1) pa_nil)) pa_nil))) (fun _ _ => rfl)))), ?_⟩
    refine ⟨.ref l, rfl, .ref a, rfl, .ref l, rfl, l, xs, rfl, .inl hl, a, _, rfl, hs, by omega, ?_, fun r H' r0 r1 ho hs' => ?_⟩
    · exact small_big z2
    · have hlt : r.toNat < xs.length := by omega
      have e : xs[r.toNat]? = some xs[r.toNat] := List.getElem?_eq_getElem hlt
      refine ⟨l, xs, r, xs[r.toNat], rfl, rfl, sqL_off hl hne ho, ?_, q r.toNat _ H' e ho hs'⟩
      have h1 := atI_nat e
      rw [Int.toNat_of_nonneg r0] at h1
      exact h1
/-- the great number that cuts what a cell brings -/
def big : Int := ((10 : Int) ^ (60 : Int).toNat) ^ (10 : Int).toNat
theorem big_pos : 0 < big := by decide +kernel
theorem big_lt : big.natAbs < 2 ^ 2000 := by decide +kernel
def spStream (K : PySem.W.Frag) : Sp := fun vs H Q _ => ∃ (a : Addr) (ns : List Int) (i : Nat), vs = [.ref a, .int i] ∧ SqL K H a (ns.map V.int) ∧ ∀ p H', H p = none → Same H H' → Stm p H' → Q (.ref p) H'
theorem ok_stream {f : Addr} {fd : FuncData} (F : Fun K "_law_stream" "_law_stream" sStream f fd) (B : Bt mg) : FnOk P w K mg base CX0 1 f fd ["_law_script", "_law_at"] (spStream K) := by
  refine F.ok scStream (fun vs H Q E h => ?_) (fun cdv A outer s H vs Q E hr h => ?_)
  · obtain ⟨a, ns, i, rfl, _⟩ := h
    rfl
  · obtain ⟨a, ns, i, rfl, ha, q⟩ := h
    refine ⟨_, (pss_cons (ps_set (i := 2) scStream.nd rfl (Or.inl rfl) (pe_op op_add (pe_op op_mul pe_int (pv 1)) pe_int))
      (C8.pss_cut (ps_if (pt_cmpR op_lt (pv 1) (pe_callB call_len_seq (by rfl) B.len PySem.boot_len (pa_cons (pv 0) pa_nil)) (nomark _))
        (pss_one (ps_set (i := 2) scStream.nd rfl (Or.inl rfl) (pe_ix ix_list (pv 0) (pv 1) (fun _ _ => rfl))))
        pss_nil)
      (pss_cons (ps_set (i := 3) scStream.nd rfl (Or.inl rfl) (pe_op op_mod (pe_callTy call_int1 (by rfl) B.int (by decide +kernel) (pa_cons (pe_callB call_abs (by rfl) B.abs (by decide +kernel) (pa_cons (pv 2) pa_nil)) pa_nil)) (pe_op op_powW (pe_op op_powW pe_int pe_int) pe_int)))
      (pss_cons (ps_set (i := 4) scStream.nd rfl (Or.inl rfl) (pe_op op_add (pe_op op_add (pe_op op_add (pe_op op_mul (pe_op op_mod (pe_callTy call_int1 (by rfl) B.int (by decide +kernel) (pa_cons (pv 3) pa_nil)) pe_int) pe_int) (pe_op op_mul pe_int (pv 1))) (pe_op op_mul pe_int (pe_callTy call_int1 (by rfl) B.int (by decide +kernel) (pa_cons (pe_cmpR op_lt (pv 2) pe_int (nomark _)) pa_nil)))) pe_int))
      (pss_one (ps_ret (pe_lst (pa_cons (pe_callB (call_max2 rfl) (by rfl) B.max (by decide +kernel) (pa_cons pe_int (pa_cons (pe_op op_sub (pv 3) (pe_op op_pow pe_int pe_int)) pa_nil))) (pa_cons (pe_op op_mod (pe_callTy call_int1 (by rfl) B.int (by decide +kernel) (pa_cons (pv 4) pa_nil)) pe_int) (pa_cons pe_int pa_nil)))))))))), ?_⟩
    refine ⟨.int i, rfl, _, _, rfl, rfl, .inl (by decide), _, _, rfl, rfl, fun σ' H' => ∃ c : Int, σ' = [some (.ref a), some (.int i), some (.int c), none, none] ∧ H' = H, ?_, ?_⟩
    rotate_left
    · rintro σ' H' ⟨c, rfl, rfl⟩
      refine ⟨.int c, rfl, c, rfl, .inl ⟨_, rfl, _, _, rfl, rfl, ⟨by decide, by decide +kernel⟩, _, _, rfl, rfl, ⟨by decide, by decide +kernel⟩, _, _, rfl, rfl, big_pos, ?_⟩⟩
      dsimp only
      rw [show ((10 : Int) ^ (60 : Int).toNat) ^ (10 : Int).toNat = big from rfl]
      generalize hg : (if c < 0 then -c else c) % big = g
      have g0 : 0 ≤ g := by rw [← hg]; exact Int.emod_nonneg _ (Int.ne_of_gt big_pos)
      have g1 : g < big := by rw [← hg]; exact Int.emod_lt_of_pos _ big_pos
      refine ⟨.int g, rfl, .inl ⟨g, rfl, _, _, rfl, rfl, (by show (0 : Int) < 2147483423; decide), _, _, rfl, rfl, .inr (by decide), .int i, rfl, _, _, rfl, rfl, .inl (by decide), _, _, rfl, rfl, ?_⟩⟩
      refine ⟨.int c, rfl, _, _, rfl, rfl, .inr ⟨_, rfl, _, _, rfl, rfl, .inl (by decide), _, _, rfl, rfl, _, _, rfl, rfl, ?_⟩⟩
      dsimp only
      generalize ((g % 2147483423 * 45121 + 2017 * (i : Int) + 5 * (if decide (c < 0) = true then 1 else 0)) + 23 : Int) = m
      refine ⟨.int g, rfl, _, _, rfl, rfl, ⟨by decide, by decide, by decide⟩, _, _, rfl, rfl, _, _, rfl, .int m, rfl, .inl ⟨m, rfl, _, _, rfl, rfl, (by show (0 : Int) < 2147483399; decide), (by show 3 ≤ sizeLine; decide), fun p np => ?_⟩⟩
      refine q p _ np (Same.new np) ⟨_, _, _, upd_same, ?_, ?_⟩
      · split <;> omega
      · have hb := big_lt
        have h18 : 0 ≤ (10 : Int) ^ (18 : Int).toNat := by decide +kernel
        split <;> omega
    refine ⟨.int i, rfl, .ref a, rfl, a, _, rfl, .inl ha, _, _, rfl, rfl, _, rfl, ite2 (fun e => ?_) (fun e => ?_)⟩
    · have h1 : i < ns.length := by
        have := of_decide_eq_true e
        rw [List.length_map] at this
        omega
      have h2 : (ns.map V.int)[i]? = some (.int ns[i]) := by
        rw [List.getElem?_map, List.getElem?_eq_getElem h1]
        rfl
      exact ⟨.ref a, rfl, .int i, rfl, a, _, i, _, rfl, rfl, ha, atI_nat h2, _, rfl, rfl⟩
    · exact ⟨_, rfl, rfl⟩
end
end Sl


set_option Elab.async false
set_option linter.all false
set_option maxRecDepth 100000
set_option maxHeartbeats 400000
namespace Sl
open PySem PySem.Spec PyProof.Rows L2
abbrev sMixed : Stmt := topT 29
abbrev sInner : Stmt := topT 30
abbrev sWith : Stmt := topT 31
theorem scMixed : FnScope ["_law_stream_here", "_law_items", "_law_left", "_law_turn"] ["_law_stream_here", "_law_items"] (defScope sMixed) := ⟨rfl, rfl, rfl, by decide +kernel, rfl, by decide +kernel, by decide +kernel⟩
theorem scInner : FnScope ["_law_part_here", "_law_name_here", "_law_inner_here"] ["_law_part_here"] (defScope sInner) := ⟨rfl, rfl, rfl, by decide +kernel, rfl, by decide +kernel, by decide +kernel⟩
/-- what len asks of a list or a tuple -/
abbrev rLenS (K : PySem.W.Frag) : List V → Hp → VK → Prop := fun xs H Q => ∃ p ys, xs = [.ref p] ∧ (SqL K H p ys ∨ SqT K H p ys) ∧ Q (.int ys.length) H
/-- the stream at a may move; all else stays -/
def Jst (a : Addr) (G G' : Hp) : Prop := Stm a G ∧ Stm a G' ∧ Off a G G'
theorem jr_st (a : Addr) : Jr (Jst a) := by
  refine ⟨fun ⟨h1, _, o1⟩ ⟨_, h2, o2⟩ => ⟨h1, h2, o1.trans o2⟩, fun ⟨h1, h2, o⟩ => o.ex' h1 h2, fun {G G' D o} ⟨h1, h2, of⟩ n => ?_, fun {G0 G G' D l} ⟨h1, _, _⟩ n ⟨_, _, of⟩ e => ?_⟩
  · have ne : a ≠ D := fun z => by
      obtain ⟨l, e⟩ := h1.lst
      rw [z, n] at e
      cases e
    refine ⟨h1, ?_, fun b x hb e => ?_⟩
    · obtain ⟨g, m, c, e, r⟩ := h2
      exact ⟨g, m, c, by rw [upd_ne ne]; exact e, r⟩
    · rw [upd_ne (ne_of_none e n)]
      exact of b x hb e
  · refine of _ _ (fun z => ?_) e
    obtain ⟨l, e2⟩ := h1.lst
    rw [← z, n] at e2
    cases e2
theorem Jst.refl {a : Addr} {G : Hp} (h : Stm a G) : Jst a G G := ⟨h, h, .refl a G⟩
theorem Jst.of {a : Addr} {G G' : Hp} (h : Stm a G) (o : Off a G G') (h' : Stm a G') : Jst a G G' := ⟨h, h', o⟩
theorem Jst.same {a : Addr} {G G' : Hp} (h : Stm a G) (s : Same G G') : Jst a G G' := ⟨h, h.same s, .same s⟩
theorem Jst.trans {a : Addr} {G G1 G2 : Hp} (x : Jst a G G1) (y : Jst a G1 G2) : Jst a G G2 := (jr_st a).tr x y
section
variable {P : Program} {w : World} {K : PySem.W.Frag} {mg : Str → Option Value} {base : Heap}
/-- the law's draws -/
structure Lw (K : PySem.W.Frag) (mg : Str → Option Value) (fSt fDr fPk fMx : Addr) (fdSt fdDr fdPk fdMx : FuncData) : Prop where
  FSt : Fun K "_law_stream" "_law_stream" sStream fSt fdSt
  bSt : Binds K fdSt ["_law_script", "_law_at"] []
  gSt : mg "_law_stream" = some (.ref fSt)
  FDr : Fun K "_law_draw" "_law_draw" sDraw fDr fdDr
  bDr : Binds K fdDr ["_law_stream_here", "_law_high"] []
  gDr : mg "_law_draw" = some (.ref fDr)
  FPk : Fun K "_law_pick" "_law_pick" sPick fPk fdPk
  bPk : Binds K fdPk ["_law_stream_here", "_law_items"] []
  gPk : mg "_law_pick" = some (.ref fPk)
  FMx : Fun K "_law_mixed" "_law_mixed" sMixed fMx fdMx
  bMx : Binds K fdMx ["_law_stream_here", "_law_items"] []
  gMx : mg "_law_mixed" = some (.ref fMx)
variable {fSt fDr fPk fMx : Addr} {fdSt fdDr fdPk fdMx : FuncData}
theorem g_draw (L : Lw K mg fSt fDr fPk fMx fdSt fdDr fdPk fdMx) (B : Bt mg) : FnOk P w K mg base CX0 1 fDr fdDr ["_law_stream_here", "_law_high"] spDraw := ok_draw L.FDr B
theorem g_pick (L : Lw K mg fSt fDr fPk fMx fdSt fdDr fdPk fdMx) (B : Bt mg) : FnOk P w K mg base CX0 2 fPk fdPk ["_law_stream_here", "_law_items"] (spPick K) := ok_pick L.FPk L.FDr L.bDr L.gDr B
def spMixed (K : PySem.W.Frag) : Sp := fun vs H Q _ => ∃ (a l : Addr) (xs : List V), vs = [.ref a, .ref l] ∧ Stm a H ∧ l ≠ a ∧ SqL K H l xs ∧ xs.length ≤ 1000 ∧
  ∀ ys p H', ys.Perm xs → H p = none → Jst a H H' → H' p = some (.lst ys) → Q (.ref p) H'
theorem perm_erase {α : Type} {xs : List α} {k : Nat} {y : α} (h : xs[k]? = some y) : xs.Perm (y :: xs.eraseIdx k) := by
  induction xs generalizing k with
  | nil => simp at h
  | cons x xs ih =>
    cases k with
    | zero =>
      have e := Option.some.inj h
      rw [e]
      exact List.Perm.refl _
    | succ k =>
      have := ih (k := k) h
      exact (this.cons x).trans (List.Perm.swap y x _)
theorem ok_mixed (L : Lw K mg fSt fDr fPk fMx fdSt fdDr fdPk fdMx) (B : Bt mg) : FnOk P w K mg base CX0 2 fMx fdMx ["_law_stream_here", "_law_items"] (spMixed K) := by
  have GD : FnOk P w K mg base CX0 1 fDr fdDr ["_law_stream_here", "_law_high"] spDraw := g_draw L B
  refine L.FMx.ok scMixed (fun vs H Q E h => ?_) (fun cdv A outer s H vs Q E hr h => ?_)
  · obtain ⟨a, l, xs, rfl, _⟩ := h
    rfl
  · obtain ⟨a, l, xs, rfl, hs, hne, hl, hz, q⟩ := h
    refine ⟨_, pss_cons (ps_set (i := 2) scMixed.nd rfl (Or.inr rfl) (pe_callTy call_list_of (by rfl) B.list (by decide +kernel) (pa_cons (pv 1) pa_nil)))
      (pss_one (ps_ret (pe_lc (own := [("_law_turn", 3)]) (g := gName 3) (tt := tYes) (te := tBM K "list" rPopAt (tVar 2) (tCons (tCall spDraw [] E0 (tCons (tVar 0) (tCons (tCB (rLenS K) (tCons (tVar 2) tNil)) tNil))) tNil)) rfl scMixed.nd (pi_range1 (by rfl) B.range (pa_cons (pe_callB call_len_seq (by rfl) B.len PySem.boot_len (pa_cons (pv 1) pa_nil)) pa_nil))
        (blkOk_by (own := [("_law_turn", 3)]) (N := ["_law_stream_here", "_law_items", "_law_left", "_law_turn"]) (sc := defScope sMixed) (by decide +kernel))
        (fun _ _ _ _ _ => pg_name (i := 3) scMixed.nd rfl (Or.inl rfl)) (fun _ _ _ _ _ => pts_nil)
        (fun _ _ _ _ _ => by exact pe_bm PySem.F.plainAttrs_list PySem.F.slot_list_pop PySem.F.type_list_pop mt_popAt (pv 2) (pa_cons (pe_call GD hr (by rfl) L.gDr L.FDr.kp L.bDr .nil pass0 (pa_cons (pv 0) (pa_cons (pe_callB call_len_seq (by rfl) B.len PySem.boot_len (pa_cons (pv 2) pa_nil)) pa_nil))) pa_nil))))), ?_⟩
    refine ⟨.ref l, rfl, l, xs, rfl, .inl hl, fun m nm => ?_⟩
    have s1 := Same.new (o := .lst xs) nm
    have hm : (upd H m (.lst xs)) m = some (.lst xs) := upd_same
    have ma : m ≠ a := fun z => by
      obtain ⟨l', e⟩ := hs.lst
      rw [← z, nm] at e
      cases e
    generalize upd H m (.lst xs) = H1 at s1 hm ⊢
    have j1 : Jst a H H1 := .same hs s1
    refine ⟨.ref l, rfl, l, xs, rfl, .inl (Same.seq s1 hl), xs.length, rfl, by omega, by omega, fun D0 nD => ?_⟩
    have md : m ≠ D0 := ne_of_none hm nD
    have ad : a ≠ D0 := fun z => by
      obtain ⟨l', e⟩ := j1.2.1.lst
      rw [z, nD] at e
      cases e
    refine lc_range (fun i H' => Stm a H' ∧ ∃ left acc, H' m = some (.lst left) ∧ H' D0 = some (.lst acc) ∧ (acc ++ left).Perm xs ∧ left.length + i = xs.length ∧ ∀ b o, b ≠ a → b ≠ m → b ≠ D0 → H1 b = some o → H' b = some o) ?_ ?_ ?_
    · refine ⟨?_, xs, [], by rw [upd_ne md]; exact hm, upd_same, List.Perm.refl _, rfl, fun b o _ _ hb e => by rw [upd_ne hb]; exact e⟩
      obtain ⟨g, m', c, e, r⟩ := j1.2.1
      exact ⟨g, m', c, by rw [upd_ne ad]; exact e, r⟩
    · rintro i H' hi ⟨hst, left, acc, hml, hD, hp, hlen, keep⟩
      have lt : left.length ≠ 0 := by omega
      refine ⟨rfl, ?_⟩
      unfold tYes
      dsimp only
      rw [if_pos rfl]
      refine ⟨.ref m, rfl, .inl ⟨rfl, _, SqL.of hml⟩, .ref a, rfl, .ref m, rfl, m, left, rfl, .inl (SqL.of hml), a, (left.length : Nat), rfl, hst, by omega, small_big (by omega), fun r H2 r0 r1 ho hst2 => ?_⟩
      have hml2 := ho _ _ ma hml
      have hD2 := ho _ _ (Ne.symm ad) hD
      have hlt : r.toNat < left.length := by omega
      have hi' : seqIndex? r left.length = some r.toNat := (ixN_seq (by unfold ixN; rw [if_pos r0, if_pos (by omega)])).1
      refine ⟨m, left, r, r.toNat, left[r.toNat], rfl, rfl, hml2, by omega, by omega, hi', List.getElem?_eq_getElem hlt, ?_⟩
      refine ⟨acc, by rw [upd_ne (Ne.symm md)]; exact hD2, ?_, ?_, left.eraseIdx r.toNat, acc ++ [left[r.toNat]], by rw [upd_ne md]; exact upd_same, upd_same, ?_, ?_, fun b o h1 h2 h3 e => ?_⟩
      · have := hp.length_eq
        rw [List.length_append] at this
        have sl := sizeLine_eq
        omega
      · obtain ⟨g, m', c, e, r⟩ := hst2
        exact ⟨g, m', c, by rw [upd_ne ad, upd_ne (Ne.symm ma)]; exact e, r⟩
      · have p1 := perm_erase (List.getElem?_eq_getElem hlt)
        have p2 : (acc ++ left).Perm (acc ++ (left[r.toNat] :: left.eraseIdx r.toNat)) := List.Perm.append_left _ p1
        rw [List.append_assoc]
        exact p2.symm.trans hp
      · rw [List.length_eraseIdx_of_lt hlt]
        omega
      · rw [upd_ne h3, upd_ne h2]
        exact ho _ _ h1 (keep b o h1 h2 h3 e)
    · rintro H' ⟨hst, left, acc, hml, hD, hp, hlen, keep⟩
      have e : left = [] := List.length_eq_zero_iff.mp (by omega)
      subst e
      rw [List.append_nil] at hp
      refine q acc D0 H' hp ?_ ⟨hs, hst, fun b o hb e => ?_⟩ hD
      · cases e : H D0 with
        | none => rfl
        | some o =>
          rw [s1 _ _ e] at nD
          cases nD
      · refine keep b o hb (fun z => ?_) (fun z => ?_) (s1 _ _ e)
        · rw [z, nm] at e
          cases e
        · have := s1 _ _ e
          rw [z, nD] at this
          cases this
end
end Sl

set_option Elab.async false
set_option linter.all false
set_option maxRecDepth 100000
set_option maxHeartbeats 400000
namespace Sl
open PySem PySem.Spec PyProof.Rows L2
theorem _root_.L2.Same.fr {H H1 : Hp} {p : Addr} (s : Same H H1) (n : H1 p = none) : H p = none := by
  cases e : H p with
  | none => rfl
  | some o =>
    rw [s _ _ e] at n
    cases n
/-! ### displays: what they give, piece by piece -/
section
variable {K : PySem.W.Frag} {σ : L2.St} {G : Hp}
/-- the expression gives a value of this kind and changes nothing that stood -/
def Gv (K : PySem.W.Frag) (σ : L2.St) (G : Hp) (te : TE) (d : D) : Prop := ∀ (H : Hp) (Q : VK), Same G H → (∀ v H', Same H H' → Rdd K H' v d → Q v H') → te σ H Q
def Gva (K : PySem.W.Frag) (σ : L2.St) (G : Hp) (ta : TA) (ds : List D) : Prop := ∀ (H : Hp) (Q : List V → Hp → Prop), Same G H → (∀ vs H', Same H H' → RddAll K H' vs ds → Q vs H') → ta σ H Q
theorem gv_int (i : Int) : Gv K σ G (tC (.int i)) (.int i) := fun H Q _ q => q _ H (Same.refl _) (.int i)
theorem gv_bl (b : Bool) : Gv K σ G (tC (.bl b)) (.bl b) := fun H Q _ q => q _ H (Same.refl _) (.bl b)
theorem gv_non : Gv K σ G (tC .non) .non := fun H Q _ q => q _ H (Same.refl _) .non
theorem gv_str (x : Str) : Gv K σ G (tC (.str x)) (.str x) := fun H Q _ q => q _ H (Same.refl _) (.str x)
theorem gv_var {i : Nat} {v : V} {d : D} (h : σ[i]? = some (some v)) (r : Rdd K G v d) : Gv K σ G (tVar i) d := fun H Q s q => ⟨v, h, q _ H (Same.refl _) (Rdd.ex (.same s) d r)⟩
theorem gva_nil : Gva K σ G tNil [] := fun H Q _ q => q _ H (Same.refl _) .nil
theorem gva_cons {te : TE} {ta : TA} {d : D} {ds : List D} (h1 : Gv K σ G te d) (h2 : Gva K σ G ta ds) : Gva K σ G (tCons te ta) (d :: ds) := fun H Q s q =>
  h1 H _ s fun v H1 s1 r1 => h2 H1 _ (s.trans s1) fun vs H2 s2 r2 => q _ _ (s1.trans s2) (.cons (Rdd.ex (.same s2) d r1) r2)
theorem gv_tup {ta : TA} {ds : List D} (h : Gva K σ G ta ds) (hz : ds.length ≤ 100000 := by first | decide | (simp only [List.length_cons, List.length_nil]; omega)) : Gv K σ G (tTup ta) (.tup ds) := fun H Q s q =>
  h H _ s fun vs H1 s1 r1 => by
    have hl := r1.length
    have h2 : sizeLine = 16777216 := sizeLine_eq
    refine ⟨by omega, fun p np => ?_⟩
    have s2 := Same.new (o := .tup vs) np
    exact q _ _ (s1.trans s2) (.tup (SqT.of upd_same) (RddAll.ex (.same s2) _ r1) hz)
theorem gv_lst {ta : TA} {ds : List D} (h : Gva K σ G ta ds) (hz : ds.length ≤ 100000 := by first | decide | (simp only [List.length_cons, List.length_nil]; omega)) : Gv K σ G (tLst ta) .lst := fun H Q s q =>
  h H _ s fun vs H1 s1 r1 => by
    have hl := r1.length
    have h2 : sizeLine = 16777216 := sizeLine_eq
    refine ⟨by omega, fun p np => ?_⟩
    exact q _ _ (s1.trans (Same.new np)) (.lst (.base (.lst upd_same)))
/-- a list display, its items known -/
theorem lst_gv {ta : TA} {ds : List D} {H : Hp} {Q : VK} (h : Gva K σ G ta ds) (s : Same G H) (hz : ds.length ≤ 100000) (q : ∀ p vs H', H p = none → Same H H' → H' p = some (.lst vs) → RddAll K H' vs ds → Q (.ref p) H') : tLst ta σ H Q :=
  h H _ s fun vs H1 s1 r1 => by
    have hl := r1.length
    have h2 : sizeLine = 16777216 := sizeLine_eq
    refine ⟨by omega, fun p np => ?_⟩
    have s2 := Same.new (o := .lst vs) np
    exact q p vs _ (s1.fr np) (s1.trans s2) upd_same (RddAll.ex (.same s2) _ r1)
theorem lst_gvE {ta : TA} {H : Hp} {Q : VK} (h : ∃ ds, Gva K σ G ta ds ∧ 1 ≤ ds.length ∧ ds.length ≤ 1000) (s : Same G H) (q : ∀ ds p vs H', 1 ≤ ds.length ∧ ds.length ≤ 1000 → H p = none → Same H H' → H' p = some (.lst vs) → RddAll K H' vs ds → Q (.ref p) H') : tLst ta σ H Q := by
  obtain ⟨ds, h1, h2⟩ := h
  exact lst_gv h1 s (by omega) (q ds · · · h2)
theorem gv_dict {te : TE} (h : ∀ H Q, (∀ p, H p = none → Q (.ref p) (upd H p (.dK []))) → te σ H Q) : Gv K σ G te .dct := fun H Q s q =>
  h H Q fun p np => q _ _ (Same.new np) (.dct (.base (.dK upd_same)))
theorem gv_opI {C : Int → Int → Prop} {g : Int → Int → Int} {ta tb : TE} {i j : Int} (h1 : Gv K σ G ta (.int i)) (h2 : Gv K σ G tb (.int j)) (hc : C i j) : Gv K σ G (tOp (rI C fun i j => .int (g i j)) ta tb) (.int (g i j)) := fun H Q s q =>
  h1 H _ s fun v H1 s1 r1 => h2 H1 _ (s.trans s1) fun u H2 s2 r2 => by
    cases r1
    cases r2
    exact ⟨i, j, rfl, rfl, hc, q _ _ (s1.trans s2) (.int _)⟩
theorem gv_opI0 {g : Int → Int → Int} {ta tb : TE} {i j : Int} (h1 : Gv K σ G ta (.int i)) (h2 : Gv K σ G tb (.int j)) : Gv K σ G (tOp (rI0 fun i j => .int (g i j)) ta tb) (.int (g i j)) := fun H Q s q =>
  h1 H _ s fun v H1 s1 r1 => h2 H1 _ (s.trans s1) fun u H2 s2 r2 => by
    cases r1
    cases r2
    exact ⟨i, j, rfl, rfl, q _ _ (s1.trans s2) (.int _)⟩
end
end Sl

set_option Elab.async false
set_option linter.all false
set_option maxRecDepth 100000
set_option maxHeartbeats 400000
namespace Sl
open PySem PySem.Spec PyProof.Rows L2
abbrev sDrawn : Stmt := topT 32
abbrev sBlock : Stmt := topT 33
abbrev sHeaded : Stmt := topT 34
theorem scDrawn : FnScope ["_law_stream_here", "_law_deep", "_law_seen", "_law_way", "_law_sign_here", "_law_size", "_law_name_here", "_law_turn"] ["_law_stream_here", "_law_deep", "_law_seen"] (defScope sDrawn) := ⟨rfl, rfl, rfl, by decide +kernel, rfl, by decide +kernel, by decide +kernel⟩
theorem scBlock : FnScope ["_law_stream_here", "_law_deep", "_law_seen", "_law_names", "_law_inner_here", "_law_rows", "_law_name_here", "_law_one"] ["_law_stream_here", "_law_deep", "_law_seen"] (defScope sBlock) := ⟨rfl, rfl, rfl, by decide +kernel, rfl, by decide +kernel, by decide +kernel⟩
theorem scHeaded : FnScope ["_law_stream_here", "_law_deep", "_law_seen", "_law_outside", "_law_way", "_law_name_here", "_law_sign_here", "_law_size", "_law_turn"] ["_law_stream_here", "_law_deep", "_law_seen", "_law_outside"] (defScope sHeaded) := ⟨rfl, rfl, rfl, by decide +kernel, rfl, by decide +kernel, by decide +kernel⟩
theorem OpN.up : ∀ {n : Nat} {d : D}, OpN n d → OpN (n + 1) d
  | 0, _, h => h.elim
  | n + 1, d, h => OpN.s.mpr ⟨(OpN.s.mp h).1, fun e he => ((OpN.s.mp h).2 e he).up⟩
theorem OpN.le {n m : Nat} {d : D} (h : OpN n d) (l : n ≤ m) : OpN m d := by
  induction l with
  | refl => exact h
  | step _ ih => exact ih.up
theorem op_U {n : Nat} {x : Str} (h : nmOk x = true) : OpN (n + 1) (mkU x) := OpN.s.mpr ⟨⟨by rw [built_U]; exact h, by rw [inn_U]; simp⟩, fun e he => by rw [inn_U] at he; cases he⟩
theorem op_W {n : Nat} {x : Str} {l : List D} (h : nmOk x = true) (hl : l.length ≤ 3) (hi : ∀ e ∈ l, OpN n e) : OpN (n + 1) (mkW x l) :=
  OpN.s.mpr ⟨⟨by rw [built_W, h, decide_eq_true hl]; rfl, by rw [inn_W]; omega⟩, fun e he => hi e (by rw [inn_W] at he; exact he)⟩
theorem op_F {n : Nat} {x : Str} {b : D} (h : nmOk x = true) (hb : OpN n b) : OpN (n + 1) (mkF x b) :=
  OpN.s.mpr ⟨⟨by rw [built_F]; exact h, by rw [inn_F]; simp⟩, fun e he => by rw [inn_F] at he; rw [List.mem_singleton.mp he]; exact hb⟩
theorem op_L {n : Nat} {ps : List (Str × D)} {b : D} (h : DefOk ps) (h3 : ps.length ≤ 3) (hp : ∀ p ∈ ps, OpN n p.2) (hb : OpN n b) : OpN (n + 1) (mkL ps b) :=
  OpN.s.mpr ⟨⟨built_L.mpr h, by rw [inn_L, List.length_append, List.length_map]; simp; omega⟩, fun e he => by
    rw [inn_L] at he
    rcases List.mem_append.mp he with he | he
    · obtain ⟨p, hp', rfl⟩ := List.mem_map.mp he
      exact hp p hp'
    · rw [List.mem_singleton.mp he]
      exact hb⟩
section
variable {P : Program} {w : World} {K : PySem.W.Frag} {mg : Str → Option Value} {base : Heap}
theorem Stm.ne {a p : Addr} {H : Hp} (h : Stm a H) (n : H p = none) : p ≠ a := fun z => by
  obtain ⟨l, e⟩ := h.lst
  rw [← z, n] at e
  cases e
/-- a draw from a display -/
theorem pick_gv {σ : L2.St} {G H : Hp} {ta : TA} {ds : List D} {a : Addr} {Q : VK} (h : Gva K σ G ta ds) (s : Same G H) (hs : Stm a H) (h1 : 1 ≤ ds.length) (h2 : ds.length ≤ 1000) (q : ∀ x d H', d ∈ ds → Jst a H H' → Rdd K H' x d → Q x H') :
    tLst ta σ H (fun x H1 => spPick K [V.ref a, x] H1 Q E0) :=
  lst_gv h s (by omega) fun p vs H1 np s1 hp r => by
    have len := r.length
    refine ⟨a, p, vs, rfl, hs.same s1, hs.ne np, SqL.of hp, by omega, by omega, fun i x H2 hx ho hs2 => ?_⟩
    obtain ⟨d, hd, rd⟩ := r.get hx
    have j : Jst a H1 H2 := ⟨hs.same s1, hs2, ho⟩
    exact q x d H2 (List.mem_of_getElem? hd) ((Jst.same hs s1).trans j) (Rdd.ex ((jr_st a).ex j) _ rd)
/-- the names that can be used -/
def Sn (K : PySem.W.Frag) (H : Hp) (l : Addr) (xs : List Str) : Prop := H l = some (.lst (xs.map V.str)) ∧ ∀ x ∈ xs, nmOk x = true
theorem strs_dp {H : Hp} : ∀ xs : List Str, DpAll K H (xs.map V.str) (xs.map PyData.str)
  | [] => .nil
  | x :: xs => .cons (.str x) (strs_dp xs)
theorem nm_ascii {x : Str} (h : nmOk x = true) : Txt.isascii x = true := by
  unfold nmOk nmTail at h
  simp only [Bool.and_eq_true] at h
  exact h.2.1
theorem nm_strOk {x : Str} (h : nmOk x = true) : PyData.strOk x = true := by
  have a := nm_ascii h
  unfold Txt.isascii at a
  unfold PyData.strOk
  rw [Array.all_eq_true] at a ⊢
  intro i hi
  have := a i hi
  simp only [decide_eq_true_eq] at this ⊢
  omega
theorem strs_lay : ∀ xs : List Str, (∀ x ∈ xs, nmOk x = true) → PyData.canLayAll0 (xs.map PyData.str) = true
  | [], _ => by simp [PyData.canLayAll0]
  | x :: xs, h => by
    rw [List.map_cons]
    unfold PyData.canLayAll0
    rw [strs_lay xs fun y hy => h y (List.mem_cons_of_mem _ hy)]
    simp [PyData.canLay0, nm_strOk (h x List.mem_cons_self)]
theorem strs_depth : ∀ xs : List Str, PyData.depthAll (xs.map PyData.str) = 0
  | [] => by simp [PyData.depthAll]
  | x :: xs => by
    rw [List.map_cons]
    unfold PyData.depthAll
    rw [strs_depth xs]
    simp [PyData.depth]
/-- l != [] -/
theorem ne_nil {H : Hp} {l p : Addr} {xs : List Str} {Q : VK} (ok : ∀ x ∈ xs, nmOk x = true) (h : SqL K H l (xs.map V.str)) (hp : SqL K H p []) (q : Q (.bl (!xs.isEmpty)) H) : rNeD K (.ref l) (.ref p) H Q := by
  refine ⟨.list (xs.map PyData.str), .list [], .lst h (strs_dp xs), .lst hp .nil, ?_, by rfl, ?_⟩
  · unfold SeqAt.shaped
    have c : (PyData.list (xs.map PyData.str)).canLay0 = true := by
      simp only [PyData.canLay0]
      exact strs_lay xs ok
    have d : (PyData.list (xs.map PyData.str)).depth ≤ 64 := by
      simp only [PyData.depth]
      rw [strs_depth]
      omega
    rw [c, decide_eq_true d]
    rfl
  · have e : PyData.eqv (.list (xs.map PyData.str)) (.list []) = xs.isEmpty := by
      cases xs with
      | nil => rfl
      | cons x xs => rfl
    rw [e]
    exact q
end
end Sl

set_option Elab.async false
set_option linter.all false
set_option maxRecDepth 100000
set_option maxHeartbeats 400000
namespace Sl
open PySem PySem.Spec PyProof.Rows L2
structure Ld (K : PySem.W.Frag) (mg : Str → Option Value) (fDn fBk fHd : Addr) (fdDn fdBk fdHd : FuncData) : Prop where
  FDn : Fun K "_law_drawn" "_law_drawn" sDrawn fDn fdDn
  bDn : Binds K fdDn ["_law_stream_here", "_law_deep", "_law_seen"] []
  gDn : mg "_law_drawn" = some (.ref fDn)
  FBk : Fun K "_law_block" "_law_block" sBlock fBk fdBk
  bBk : Binds K fdBk ["_law_stream_here", "_law_deep", "_law_seen"] []
  gBk : mg "_law_block" = some (.ref fBk)
  FHd : Fun K "_law_headed" "_law_headed" sHeaded fHd fdHd
  bHd : Binds K fdHd ["_law_stream_here", "_law_deep", "_law_seen", "_law_outside"] []
  gHd : mg "_law_headed" = some (.ref fHd)
def spDrawn (K : PySem.W.Frag) (n : Nat) : Sp := fun vs H Q _ => ∃ (a l : Addr) (xs : List Str), vs = [V.ref a, .int n, .ref l] ∧ Stm a H ∧ l ≠ a ∧ Sn K H l xs ∧ xs.length + 8 * n ≤ 400 ∧
  ∀ v d H', Jst a H H' → Rdd K H' v d → OpN (2 * n + 1) d → Q v H'
def spBlock (K : PySem.W.Frag) (n : Nat) : Sp := fun vs H Q _ => ∃ (a l : Addr) (xs : List Str), vs = [V.ref a, .int (n + 1 : Nat), .ref l] ∧ Stm a H ∧ l ≠ a ∧ Sn K H l xs ∧ xs.length + 8 * (n + 1) ≤ 400 ∧
  ∀ v d H', Jst a H H' → Rdd K H' v d → OpN (2 * n + 3) d → Q v H'
def spHeaded (K : PySem.W.Frag) (n : Nat) : Sp := fun vs H Q _ => ∃ (a l o : Addr) (xs ys : List Str), vs = [V.ref a, .int n, .ref l, .ref o] ∧ Stm a H ∧ l ≠ a ∧ o ≠ a ∧ Sn K H l xs ∧ Sn K H o ys ∧ ys.length ≤ 1000 ∧ xs.length + 2 + 8 * n ≤ 400 ∧
  ∀ v d H', Jst a H H' → Rdd K H' v d → OpN (2 * n + 2) d → Q v H'
theorem sqL_ex {K : PySem.W.Frag} {a l : Addr} {G G' : Hp} {xs : List V} (j : Jst a G G') (n : l ≠ a) (h : SqL K G l xs) : SqL K G' l xs := sqL_off h n j.2.2
theorem Sn.ex {K : PySem.W.Frag} {a l : Addr} {G G' : Hp} {xs : List Str} (h : Sn K G l xs) (j : Jst a G G') (n : l ≠ a) : Sn K G' l xs := ⟨j.2.2 _ _ n h.1, h.2⟩
theorem strs_at' {xs : List Str} {i : Nat} {x : V} (h : (xs.map V.str)[i]? = some x) : ∃ y, xs[i]? = some y ∧ x = .str y := by
  rw [List.getElem?_map] at h
  obtain ⟨y, h1, h2⟩ := Option.map_eq_some_iff.mp h
  exact ⟨y, h1, h2.symm⟩
theorem nm_a : nmOk "a" = true := by decide +kernel
theorem nm_b : nmOk "b" = true := by decide +kernel
theorem nm_c : nmOk "c" = true := by decide +kernel
theorem nm_x : nmOk "x" = true := by decide +kernel
theorem nm_y : nmOk "y" = true := by decide +kernel
theorem nm_z : nmOk "z" = true := by decide +kernel
theorem nm_f : nmOk "f" = true := by decide +kernel
theorem nm_g : nmOk "g" = true := by decide +kernel
theorem nm_k : nmOk "k" = true := by decide +kernel
theorem nm_m : nmOk "m" = true := by decide +kernel
theorem nm_at : nmOk "at" = true := by decide +kernel
theorem nm_pair : nmOk "pair" = true := by decide +kernel
/-- a sign and how many terms stand behind it -/
def SgOk (d : D) : Prop := ∃ (x : Str) (k : Nat), d = .tup [.str x, .int k] ∧ nmOk x = true ∧ k ≤ 3
section
variable {P : Program} {w : World} {K : PySem.W.Frag} {mg : Str → Option Value} {base : Heap} {fSt fDr fPk fMx : Addr} {fdSt fdDr fdPk fdMx : FuncData} {fDn fBk fHd : Addr} {fdDn fdBk fdHd : FuncData}
theorem gv_pair {σ : L2.St} {G : Hp} {x : Str} {i : Int} : Gv K σ G (tTup (tCons (tC (.str x)) (tCons (tC (.int i)) tNil))) (.tup [.str x, .int i]) := gv_tup (gva_cons (gv_str _) (gva_cons (gv_int _) gva_nil)) (by simp)
theorem ok_headed (n : Nat) (k : Nat) (k2 : 2 ≤ k) (GN : FnOk P w K mg base CX0 k fDn fdDn ["_law_stream_here", "_law_deep", "_law_seen"] (spDrawn K n)) (Y : Ld K mg fDn fBk fHd fdDn fdBk fdHd) (L : Lw K mg fSt fDr fPk fMx fdSt fdDr fdPk fdMx) (B : Bt mg) :
    FnOk P w K mg base CX0 (k + 1) fHd fdHd ["_law_stream_here", "_law_deep", "_law_seen", "_law_outside"] (spHeaded K n) := by
  have GD : FnOk P w K mg base CX0 1 fDr fdDr ["_law_stream_here", "_law_high"] spDraw := g_draw L B
  have GP : FnOk P w K mg base CX0 2 fPk fdPk ["_law_stream_here", "_law_items"] (spPick K) := g_pick L B
  refine Y.FHd.ok scHeaded (fun vs H Q E h => ?_) (fun cdv A outer s H vs Q E hr h => ?_)
  · obtain ⟨a, l, o, xs, ys, rfl, _⟩ := h
    rfl
  · obtain ⟨a, l, o, xs, ys, rfl, hs, hla, hoa, hl, ho, hz, hb, q⟩ := h
    have h1 := hr.mono (by omega : 1 ≤ k)
    have h2 := hr.mono k2
    refine ⟨_, (pss_cons (ps_set (i := 4) scHeaded.nd rfl (Or.inl rfl) (pe_call GD h1 (by rfl) L.gDr L.FDr.kp L.bDr .nil pass0 (pa_cons (pv 0) (pa_cons pe_int pa_nil))))
      (C8.pss_cut (ps_if (PW.pt (pw_and (pt_cmpR op_eq (pv 4) pe_int (nomark _)) (pw_and1 (pt_cmpR (op_neD hr.units) (pv 3) (pe_lst pa_nil) (nomark _)))))
        (pss_one (ps_ret (pe_tup (pa_cons pe_str (pa_cons (pe_call GP h2 (by rfl) L.gPk L.FPk.kp L.bPk .nil pass0 (pa_cons (pv 0) (pa_cons (pv 3) pa_nil))) pa_nil))))) pss_nil)
      (pss_cons (ps_if (pt_cmpR op_lt (pv 4) pe_int (nomark _))
        (pss_cons (ps_set (i := 5) scHeaded.nd rfl (Or.inl rfl) (pe_call GP h2 (by rfl) L.gPk L.FPk.kp L.bPk .nil pass0 (pa_cons (pv 0) (pa_cons (pe_lst (pa_cons pe_str (pa_cons pe_str (pa_cons pe_str pa_nil)))) pa_nil))))
        (pss_one (ps_ret (pe_tup (pa_cons pe_str (pa_cons (pv 5) (pa_cons (pe_call GN hr (by rfl) Y.gDn Y.FDn.kp Y.bDn .nil pass0 (pa_cons (pv 0) (pa_cons (pv 1) (pa_cons (pe_op op_cat (pv 2) (pe_lst (pa_cons (pv 5) (pa_cons (pv 5) pa_nil)))) pa_nil)))) pa_nil))))))) pss_nil)
      (pss_cons (ps_asg (pe_call GP h2 (by rfl) L.gPk L.FPk.kp L.bPk .nil pass0 (pa_cons (pv 0) (pa_cons (pe_lst (pa_cons (pe_tup (pa_cons pe_str (pa_cons pe_int pa_nil))) (pa_cons (pe_tup (pa_cons pe_str (pa_cons pe_int pa_nil))) (pa_cons (pe_tup (pa_cons pe_str (pa_cons pe_int pa_nil)))
          (pa_cons (pe_tup (pa_cons pe_str (pa_cons pe_int pa_nil))) (pa_cons (pe_tup (pa_cons pe_str (pa_cons pe_int pa_nil))) pa_nil)))))) pa_nil))) (pg_tup (by rfl) (pgs_cons (pg_name (i := 6) scHeaded.nd rfl (Or.inl rfl)) (pgs_cons (pg_name (i := 7) scHeaded.nd rfl (Or.inl rfl)) pgs_nil))))
      (pss_one (ps_ret (pe_tup (pa_cons pe_str (pa_cons (pv 6) (pa_cons (pe_callTy call_tuple_of (by rfl) B.tuple (by decide +kernel) (pa_cons
        (pe_lc (own := [("_law_turn", 8)]) (g := gName 8) (tt := tYes) (te := tCall (spDrawn K n) [] E0 (tCons (tVar 0) (tCons (tVar 1) (tCons (tVar 2) tNil)))) rfl scHeaded.nd (pi_range1 (by rfl) B.range (pa_cons (pv 7) pa_nil))
          (blkOk_by (own := [("_law_turn", 8)]) (N := ["_law_stream_here", "_law_deep", "_law_seen", "_law_outside", "_law_way", "_law_name_here", "_law_sign_here", "_law_size", "_law_turn"]) (sc := defScope sHeaded) (by decide +kernel))
          (fun _ _ _ _ _ => pg_name (i := 8) scHeaded.nd rfl (Or.inl rfl)) (fun _ _ _ _ _ => pts_nil)
          (fun _ _ _ _ _ => by exact pe_call GN hr (by rfl) Y.gDn Y.FDn.kp Y.bDn .nil pass0 (pa_cons (pv 0) (pa_cons (pv 1) (pa_cons (pv 2) pa_nil))))) pa_nil)) pa_nil)))))))))), ?_⟩
    refine ⟨.ref a, rfl, a, 8, rfl, hs, by decide, small_big (by decide), fun r H1 r0 r1 o1 hs1 => ?_⟩
    have j1 : Jst a H H1 := ⟨hs, hs1, o1⟩
    have hl1 := hl.ex j1 hla
    have ho1 := ho.ex j1 hoa
    refine ⟨fun σ' H' => σ' = [some (.ref a), some (.int n), some (.ref l), some (.ref o), some (.int r), none, none, none, none] ∧ Jst a H H', ?_, ?_⟩
    · refine ⟨.int r, rfl, rfl, _, rfl, ite2 (fun e => ?_) (fun e => ⟨rfl, j1⟩)⟩
      refine ⟨.ref o, rfl, (by show 0 ≤ sizeLine; decide), fun p np => ?_⟩
      have s2 := Same.new (o := .lst []) np
      have hp : (upd H1 p (.lst [])) p = some (.lst []) := upd_same
      generalize upd H1 p (.lst []) = H2 at s2 hp ⊢
      have j2 := j1.trans (.same hs1 s2)
      have ho2 := ho.ex j2 hoa
      refine ne_nil ho.2 (SqL.of ho2.1) (SqL.of hp) ⟨_, rfl, ite2 (fun e2 => ?_) (fun e2 => ⟨rfl, j2⟩)⟩
      have ne : 1 ≤ ys.length := by
        cases ys with
        | nil => cases e2
        | cons y ys => simp
      refine ⟨.ref a, rfl, .ref o, rfl, a, o, _, rfl, j2.2.1, hoa, SqL.of ho2.1, by rw [List.length_map]; exact ne, by rw [List.length_map]; omega, fun i x H3 hx o3 hs3 => ?_⟩
      obtain ⟨y, hy, rfl⟩ := strs_at' hx
      have j3 : Jst a H H3 := j2.trans ⟨j2.2.1, hs3, o3⟩
      refine ⟨(by show 2 ≤ sizeLine; decide), fun t nt => ?_⟩
      have st := Same.new (o := .tup [V.str "name", .str y]) nt
      exact q _ (mkU y) _ (j3.trans (.same hs3 st)) (tup_val upd_same (.cons (.str _) (.cons (.str _) .nil)) (by simp)) (op_U (n := 2 * n + 1) (ho.2 y (List.mem_of_getElem? hy)))
    · rintro σ' H2 ⟨rfl, j2⟩
      have hl2 := hl.ex j2 hla
      have hs2 := j2.2.1
      refine ⟨.int r, rfl, _, _, rfl, rfl, _, rfl, ite2 (fun e => ?_) (fun e => ?_)⟩
      · refine ⟨.ref a, rfl, pick_gv (G := H2) (gva_cons (gv_str "a") (gva_cons (gv_str "b") (gva_cons (gv_str "c") gva_nil))) (Same.refl _) hs2 (by decide) (by decide) fun x d H3 hd j3 rd => ?_⟩
        obtain ⟨y, rfl, hy⟩ : ∃ y, d = .str y ∧ nmOk y = true := by
          simp only [List.mem_cons, List.not_mem_nil, or_false] at hd
          rcases hd with rfl | rfl | rfl
          · exact ⟨_, rfl, nm_a⟩
          · exact ⟨_, rfl, nm_b⟩
          · exact ⟨_, rfl, nm_c⟩
        cases rd
        have hl3 := hl2.ex j3 hla
        refine ⟨_, rfl, .ref a, rfl, .int n, rfl, .ref l, rfl, _, rfl, _, rfl, (by show 2 ≤ sizeLine; decide), fun p np => ?_⟩
        have s4 := Same.new (o := .lst [V.str y, .str y]) np
        have hp : (upd H3 p (.lst [V.str y, .str y])) p = some (.lst [V.str y, .str y]) := upd_same
        generalize upd H3 p (.lst [V.str y, .str y]) = H4 at s4 hp ⊢
        have hs4 := j3.2.1.same s4
        have sl := sizeLine_eq
        refine ⟨l, p, xs.map V.str, [V.str y, .str y], rfl, rfl, s4 _ _ hl3.1, hp, by rw [List.length_map]; simp; omega, fun p2 np2 => ?_⟩
        have s5 := Same.new (o := .lst (xs.map V.str ++ [V.str y, .str y])) np2
        have hp2 : (upd H4 p2 (.lst (xs.map V.str ++ [V.str y, .str y]))) p2 = some (.lst (xs.map V.str ++ [V.str y, .str y])) := upd_same
        generalize upd H4 p2 (.lst (xs.map V.str ++ [V.str y, .str y])) = H5 at s5 hp2 ⊢
        have e2 : xs.map V.str ++ [V.str y, .str y] = (xs ++ [y, y]).map V.str := by rw [List.map_append] <;> rfl
        rw [e2] at hp2
        have hs5 := hs4.same s5
        have j5 : Jst a H H5 := (j2.trans j3).trans ((Jst.same j3.2.1 s4).trans (.same hs4 s5))
        refine ⟨a, p2, xs ++ [y, y], rfl, hs5, hs4.ne np2, ⟨hp2, fun z hz => ?_⟩, by rw [List.length_append]; simp; omega, fun v d H6 j6 rv ov => ?_⟩
        · rcases List.mem_append.mp hz with hz | hz
          · exact hl.2 z hz
          · simp only [List.mem_cons, List.not_mem_nil, or_false] at hz
            rcases hz with rfl | rfl <;> exact hy
        · refine ⟨(by show 3 ≤ sizeLine; decide), fun t nt => ?_⟩
          have st := Same.new (o := .tup [V.str "fun", .str y, v]) nt
          exact q _ (mkF y d) _ ((j5.trans j6).trans (.same j6.2.1 st)) (tup_val upd_same (.cons (.str _) (.cons (.str _) (.cons (Rdd.ex (.same st) _ rv) .nil))) (by simp)) (op_F hy ov)
      · refine ⟨.ref a, rfl, pick_gv (G := H2) (gva_cons gv_pair (gva_cons gv_pair (gva_cons gv_pair (gva_cons gv_pair (gva_cons gv_pair gva_nil))))) (Same.refl _) hs2 (by simp) (by simp) fun x d H3 hd j3 rd => ?_⟩
        obtain ⟨y, m, rfl, hy, hm⟩ : SgOk d := by
          simp only [List.mem_cons, List.not_mem_nil, or_false] at hd
          rcases hd with rfl | rfl | rfl | rfl | rfl
          · exact ⟨_, 1, rfl, nm_f, by decide⟩
          · exact ⟨_, 2, rfl, nm_at, by decide⟩
          · exact ⟨_, 2, rfl, nm_at, by decide⟩
          · exact ⟨_, 2, rfl, nm_pair, by decide⟩
          · exact ⟨_, 0, rfl, nm_k, by decide⟩
        obtain ⟨t, us, rfl, ht, hus, _⟩ := rd.tupd'
        obtain ⟨u1, u2, rfl, r1, r2⟩ := hus.pair
        cases r1
        cases r2
        have hl3 := hl2.ex j3 hla
        have hs3 := j3.2.1
        refine ⟨t, _, rfl, ht, rfl, _, _, rfl, _, _, rfl, rfl, ?_⟩
        refine ⟨_, rfl, .int m, rfl, (m : Int), rfl, by omega, by omega, fun D0 nD => ?_⟩
        refine lcJR (K := K) (J := Jst a) (Pd := fun _ d => OpN (2 * n + 1) d) (jr_st a) (.refl hs3) (by omega) nD ?_ ?_
        · intro i H4 Q4 Z4 _ j4 hQ
          refine ⟨rfl, ?_⟩
          refine iteT (B := Z4 H4) ⟨.ref a, rfl, .int n, rfl, .ref l, rfl, a, l, xs, rfl, j4.2.1, hla, hl3.ex j4 hla, by omega, fun v d H5 j5 rv ov => hQ v H5 d j5 rv ov⟩
        · intro H4 zs ds j4 hD rz lz hds
          have ld : ds.length ≤ 3 := by omega
          refine ⟨D0, zs, rfl, .inl ⟨SqL.of hD, fun t1 n1 => ?_⟩⟩
          have s5 := Same.new (o := .tup zs) n1
          have h5 : (upd H4 t1 (.tup zs)) t1 = some (.tup zs) := upd_same
          generalize upd H4 t1 (.tup zs) = H5 at s5 h5 ⊢
          refine ⟨(by show 3 ≤ sizeLine; decide), fun t2 n2 => ?_⟩
          have s6 := Same.new (o := .tup [V.str "word", .str y, .ref t1]) n2
          have j6 : Jst a H (upd H5 t2 (.tup [V.str "word", .str y, .ref t1])) := (j2.trans j3).trans (j4.trans (.same j4.2.1 (s5.trans s6)))
          have r1 : Rdd K (upd H5 t2 (.tup [V.str "word", .str y, .ref t1])) (.ref t1) (.tup ds) := tup_val (s6 _ _ h5) (RddAll.ex (.same (s5.trans s6)) _ rz) (by omega)
          exact q _ (mkW y ds) _ j6 (tup_val upd_same (.cons (.str _) (.cons (.str _) (.cons r1 .nil))) (by simp)) (op_W hy ld fun e he => by
            obtain ⟨i, hi, rfl⟩ := List.getElem_of_mem he
            exact hds i _ (List.getElem?_eq_getElem hi))
end
end Sl

set_option Elab.async false
set_option linter.all false
set_option maxRecDepth 100000
set_option maxHeartbeats 400000
namespace Sl
open PySem PySem.Spec PyProof.Rows L2
theorem cutTo' (xs : List V) (k : Nat) : cutV xs none (some (k : Int)) = xs.take k := by
  unfold cutV
  rw [HT.sIx_none, HT.sIx_nat, List.drop_zero, Nat.sub_zero]
  by_cases h : k ≤ xs.length
  · rw [Nat.min_eq_left h]
  · rw [Nat.min_eq_right (by omega), List.take_length, List.take_of_length_le (by omega)]
def blkN : List Str := ["x", "y", "z", "a"]
theorem blkN_ok : ∀ x ∈ blkN, nmOk x = true := by
  intro x hx
  simp only [blkN, List.mem_cons, List.not_mem_nil, or_false] at hx
  rcases hx with rfl | rfl | rfl | rfl
  · exact nm_x
  · exact nm_y
  · exact nm_z
  · exact nm_a
theorem blkN_nd : blkN.Nodup := by decide +kernel
theorem fm_outside (p : Str → Bool) : ∀ xs : List Str, (xs.map fun x => if p x = true then some (V.str x) else none).filterMap id = (xs.filter p).map V.str
  | [] => rfl
  | x :: xs => by
    rw [List.map_cons, List.filter_cons]
    by_cases h : p x = true
    · rw [if_pos h, if_pos h, List.map_cons, ← fm_outside p xs]
      rfl
    · rw [if_neg h, if_neg h, ← fm_outside p xs]
      rfl
theorem inV_strs (x : Str) (ys : List Str) : inV (.str x) (ys.map V.str) = decide (x ∈ ys) := by
  unfold inV
  induction ys with
  | nil => rfl
  | cons y ys ih =>
    rw [List.map_cons, List.any_cons, ih]
    show ((y == x) || _) = _
    by_cases e : y = x
    · rw [e, beq_self_eq_true, Bool.true_or, decide_eq_true List.mem_cons_self]
    · rw [beq_eq_false_iff_ne.mpr e, Bool.false_or]
      exact decide_eq_decide.mpr ⟨fun h => List.mem_cons_of_mem _ h, fun h => (List.mem_cons.mp h).resolve_left fun z => e z.symm⟩
theorem sub1 (n : Nat) : V.int (((n + 1 : Nat) : Int) - 1) = V.int n := by rw [show ((n + 1 : Nat) : Int) - 1 = (n : Int) by omega]
def vStr : V → Str
  | .str x => x
  | _ => ""
theorem strs_perm {ys : List V} {xs : List Str} (h : ys.Perm (xs.map V.str)) : ∃ zs : List Str, ys = zs.map V.str ∧ zs.Perm xs := by
  refine ⟨ys.map vStr, ?_, ?_⟩
  · have : ∀ l : List V, (∀ y ∈ l, ∃ x, y = V.str x) → l = (l.map vStr).map V.str := by
      intro l
      induction l with
      | nil => exact fun _ => rfl
      | cons y l ih =>
        intro hl
        obtain ⟨x, rfl⟩ := hl y List.mem_cons_self
        rw [List.map_cons, List.map_cons, ← ih fun z hz => hl z (List.mem_cons_of_mem _ hz)]
        rfl
    refine this ys fun y hy => ?_
    obtain ⟨x, _, rfl⟩ := List.mem_map.mp (h.mem_iff.mp hy)
    exact ⟨x, rfl⟩
  · have p := h.map vStr
    rw [List.map_map] at p
    have e : (vStr ∘ V.str) = id := rfl
    rw [e, List.map_id] at p
    exact p
theorem strs_of {K : PySem.W.Frag} {H : Hp} : ∀ {vs : List V} {xs : List Str}, RddAll K H vs (xs.map D.str) → vs = xs.map V.str
  | _, [], h => by
    cases h
    rfl
  | _, x :: xs, h => by
    cases h with
    | cons h1 h2 =>
      cases h1
      rw [strs_of h2]
      rfl
section
variable {P : Program} {w : World} {K : PySem.W.Frag} {mg : Str → Option Value} {base : Heap} {fSt fDr fPk fMx : Addr} {fdSt fdDr fdPk fdMx : FuncData} {fDn fBk fHd : Addr} {fdDn fdBk fdHd : FuncData}
theorem ok_block (n : Nat) (k : Nat) (k2 : 2 ≤ k) (GN : FnOk P w K mg base CX0 k fDn fdDn ["_law_stream_here", "_law_deep", "_law_seen"] (spDrawn K n)) (Y : Ld K mg fDn fBk fHd fdDn fdBk fdHd) (L : Lw K mg fSt fDr fPk fMx fdSt fdDr fdPk fdMx) (B : Bt mg) :
    FnOk P w K mg base CX0 (k + 2) fBk fdBk ["_law_stream_here", "_law_deep", "_law_seen"] (spBlock K n) := by
  have GD : FnOk P w K mg base CX0 1 fDr fdDr ["_law_stream_here", "_law_high"] spDraw := g_draw L B
  have GM : FnOk P w K mg base CX0 2 fMx fdMx ["_law_stream_here", "_law_items"] (spMixed K) := ok_mixed L B
  have GH : FnOk P w K mg base CX0 (k + 1) fHd fdHd ["_law_stream_here", "_law_deep", "_law_seen", "_law_outside"] (spHeaded K n) := ok_headed n k k2 GN Y L B
  refine Y.FBk.ok scBlock (fun vs H Q E h => ?_) (fun cdv A outer s H vs Q E hr h => ?_)
  · obtain ⟨a, l, xs, rfl, _⟩ := h
    rfl
  · obtain ⟨a, l, xs, rfl, hs, hla, hl, hb, q⟩ := h
    have h1 := hr.mono (by omega : 1 ≤ k + 1)
    have h2 := hr.mono (by omega : 2 ≤ k + 1)
    have hk := hr.mono (by omega : k ≤ k + 1)
    refine ⟨_, (pss_cons (ps_set (i := 3) scBlock.nd rfl (Or.inr rfl) (pe_slice sl_list (pe_call GM h2 (by rfl) L.gMx L.FMx.kp L.bMx .nil pass0 (pa_cons (pv 0) (pa_cons (pe_lst (pa_cons pe_str (pa_cons pe_str (pa_cons pe_str (pa_cons pe_str pa_nil))))) pa_nil))) po_none (po_some (pe_op op_add pe_int (pe_call GD h1 (by rfl) L.gDr L.FDr.kp L.bDr .nil pass0 (pa_cons (pv 0) (pa_cons pe_int pa_nil)))))))
      (pss_cons (ps_par (i := 4) (j := 5) (by rfl) scBlock.nd rfl rfl (by decide) rfl rfl (pa_cons (pe_op op_cat (pe_op op_cat (pv 2) (pv 3)) (pv 3)) (pa_cons (pe_lst pa_nil) pa_nil)) (by rfl))
      (pss_cons (ps_for PassesOwn.never rfl (pi_list (pv 3)) (pg_name (i := 6) scBlock.nd rfl (Or.inl rfl))
        (pss_one (ps_expr (pe_bm PySem.F.plainAttrs_list PySem.F.slot_list_append PySem.F.type_list_append mt_append (pv 5) (pa_cons (pe_tup (pa_cons (pv 6) (pa_cons (pe_call GH hr (by rfl) Y.gHd Y.FHd.kp Y.bHd .nil pass0 (pa_cons (pv 0) (pa_cons (pe_op op_sub (pv 1) pe_int) (pa_cons (pv 4) (pa_cons
          (pe_lc (own := [("_law_one", 7)]) (g := gName 7) (tt := tTest (tOp (rIn K true) (tVar 7) (tVar 3))) (te := tVar 7) rfl scBlock.nd (pi_list (pv 2)) (blkOk_by (own := [("_law_one", 7)]) (N := ["_law_stream_here", "_law_deep", "_law_seen", "_law_names", "_law_inner_here", "_law_rows", "_law_name_here", "_law_one"]) (sc := defScope sBlock) (by decide +kernel))
            (fun _ _ _ _ _ => pg_name (i := 7) scBlock.nd rfl (Or.inl rfl)) (fun _ _ _ _ _ => pts_one (by exact pt_cmpR op_notIn_seq (pv 7) (pv 3) (by rfl))) (fun _ _ _ _ _ => by exact pv 7)) pa_nil))))) pa_nil))) pa_nil)))))
      (pss_one (ps_ret (pe_tup (pa_cons pe_str (pa_cons (pe_callTy call_tuple_of (by rfl) B.tuple (by decide +kernel) (pa_cons (pv 5) pa_nil)) (pa_cons (pe_call GN hk (by rfl) Y.gDn Y.FDn.kp Y.bDn .nil pass0 (pa_cons (pv 0) (pa_cons (pe_op op_sub (pv 1) pe_int) (pa_cons (pv 4) pa_nil)))) pa_nil))))))))), ?_⟩
    refine ⟨.ref a, rfl, lst_gv (K := K) (G := H) (ds := blkN.map D.str) (gva_cons (gv_str "x") (gva_cons (gv_str "y") (gva_cons (gv_str "z") (gva_cons (gv_str "a") gva_nil)))) (Same.refl _) (by decide) fun p0 vs H1 np0 s1 hp0 rv => ?_⟩
    have ev := strs_of rv
    subst ev
    refine ⟨a, p0, blkN.map V.str, rfl, hs.same s1, hs.ne np0, SqL.of hp0, by decide, fun ys p1 H2 hperm np1 j2 hp1 => ?_⟩
    obtain ⟨zs, rfl, hz⟩ := strs_perm hperm
    have j2 : Jst a H H2 := (Jst.same hs s1).trans j2
    have hs1 := hs.same s1
    refine ⟨.ref a, rfl, a, 3, rfl, j2.2.1, by decide, small_big (by decide), fun r H3 r0 r1 o3 hs3 => ⟨_, _, rfl, rfl, 1 + r, rfl, p1, zs.map V.str, rfl, SqL.of (o3 _ _ (hs1.ne np1) hp1), fun p2 np2 => ?_⟩⟩
    obtain ⟨m, hm⟩ : ∃ m : Nat, 1 + r = (m : Int) := ⟨(1 + r).toNat, by omega⟩
    rw [hm, cutTo', ← List.map_take]
    have hlz : zs.length = 4 := hz.length_eq
    have hmn : 1 ≤ m ∧ m ≤ 3 := by omega
    generalize hnames : zs.take m = names
    have ln : names.length = m := by rw [← hnames, List.length_take]; omega
    have okn : ∀ x ∈ names, nmOk x = true := fun x hx => by
      rw [← hnames] at hx
      exact blkN_ok x (hz.mem_iff.mp (List.mem_of_mem_take hx))
    have ndn : names.Nodup := by
      rw [← hnames]
      exact ((hz.nodup_iff).mpr blkN_nd).sublist (List.take_sublist m zs)
    have j3 : Jst a H H3 := j2.trans ⟨j2.2.1, hs3, o3⟩
    have s4 := Same.new (o := .lst (names.map V.str)) np2
    have hp2 : (upd H3 p2 (.lst (names.map V.str))) p2 = some (.lst (names.map V.str)) := upd_same
    have n2a := hs3.ne np2
    generalize upd H3 p2 (.lst (names.map V.str)) = H4 at s4 hp2 ⊢
    have hs4 := hs3.same s4
    have j4 := j3.trans (.same hs3 s4)
    have hl4 := hl.ex j4 hla
    have sl := sizeLine_eq
    refine ⟨.ref l, rfl, .ref p2, rfl, l, p2, _, _, rfl, rfl, hl4.1, hp2, by rw [List.length_map, List.length_map]; omega, fun p3 np3 => ?_⟩
    have s5 := Same.new (o := .lst (xs.map V.str ++ names.map V.str)) np3
    have hp3 : (upd H4 p3 (.lst (xs.map V.str ++ names.map V.str))) p3 = some (.lst (xs.map V.str ++ names.map V.str)) := upd_same
    generalize upd H4 p3 (.lst (xs.map V.str ++ names.map V.str)) = H5 at s5 hp3 ⊢
    refine ⟨.ref p2, rfl, p3, p2, _, _, rfl, rfl, hp3, s5 _ _ hp2, by rw [List.length_append, List.length_map, List.length_map]; omega, fun p4 np4 => ?_⟩
    have e4 : xs.map V.str ++ names.map V.str ++ names.map V.str = (xs ++ names ++ names).map V.str := by rw [List.map_append, List.map_append]
    rw [e4]
    generalize hinner : xs ++ names ++ names = inner
    have li : inner.length ≤ xs.length + 6 := by rw [← hinner, List.length_append, List.length_append]; omega
    have oki : ∀ x ∈ inner, nmOk x = true := fun x hx => by
      rw [← hinner] at hx
      rcases List.mem_append.mp hx with hx | hx
      · rcases List.mem_append.mp hx with hx | hx
        · exact hl.2 x hx
        · exact okn x hx
      · exact okn x hx
    have s6 := Same.new (o := .lst (inner.map V.str)) np4
    have hp4 : (upd H5 p4 (.lst (inner.map V.str))) p4 = some (.lst (inner.map V.str)) := upd_same
    have hs5 := hs4.same s5
    have n4a := hs5.ne np4
    generalize upd H5 p4 (.lst (inner.map V.str)) = H6 at s6 hp4 ⊢
    have hs6 := hs5.same s6
    refine ⟨(by show 0 ≤ sizeLine; decide), fun p5 np5 => ⟨_, _, rfl, ?_⟩⟩
    have n5a := hs6.ne np5
    have s7 := Same.new (o := .lst []) np5
    have hp5 : (upd H6 p5 (.lst [])) p5 = some (.lst []) := upd_same
    have n25 : p2 ≠ p5 := ne_of_none (s6 _ _ (s5 _ _ hp2)) np5
    have n45 : p4 ≠ p5 := ne_of_none hp4 np5
    have nl5 : l ≠ p5 := ne_of_none (s6 _ _ (s5 _ _ hl4.1)) np5
    have fresh5 : H p5 = none := (j4.trans ((Jst.same hs4 s5).trans (.same hs5 s6))) |> fun j => by
      cases e : H p5 with
      | none => rfl
      | some o =>
        have := j.2.2 _ _ n5a e
        rw [np5] at this
        cases this
    generalize upd H6 p5 (.lst []) = H7 at s7 hp5 ⊢
    have s47 := (s5.trans s6).trans s7
    have j7 : Jst a H H7 := j4.trans (.same hs4 s47)
    refine ⟨.ref p2, rfl, p2, rfl, ⟨_, SqL.of (s47 _ _ hp2)⟩, for_list (K := K) (xs := names.map V.str) (fun i σ' H' => ∃ y zs ps, σ' = [some (.ref a), some (.int (n + 1 : Nat)), some (.ref l), some (.ref p2), some (.ref p4), some (.ref p5), y, none] ∧ Jst a H H' ∧ H' p2 = some (.lst (names.map V.str)) ∧ H' p4 = some (.lst (inner.map V.str)) ∧
      H' p5 = some (.lst zs) ∧ RddAll K H' zs (mkPs ps) ∧ ps.map (·.1) = names.take i ∧ ∀ p ∈ ps, OpN (2 * n + 2) p.2) ⟨none, [], [], rfl, j7, s47 _ _ hp2, s7 _ _ hp4, hp5, .nil, rfl, fun p hp => by cases hp⟩ ?_ ?_ ?_⟩
    · rintro i σ' H' _ ⟨y, zs, ps, rfl, j, h2, _⟩
      exact SqL.of h2
    · rintro i x σ' H' hx ⟨y, zs, ps, rfl, j, h2, h4, h5, rz, en, op⟩
      obtain ⟨nm, hnm, rfl⟩ := strs_at' hx
      have hl' := hl.ex j hla
      have lz := rz.length
      have lm : (mkPs ps).length = ps.length := List.length_map ..
      have lps : ps.length ≤ 3 := by
        have := congrArg List.length en
        rw [List.length_map, List.length_take] at this
        omega
      refine ⟨.ref p5, rfl, .inl ⟨rfl, _, SqL.of h5⟩, _, rfl, .ref a, rfl, .int (n + 1 : Nat), rfl, _, _, rfl, rfl, .ref p4, rfl, .ref l, rfl, l, rfl, ⟨_, SqL.of hl'.1⟩, fun D0 nD => ?_⟩
      refine lcL (xs.map fun x => if (!decide (x ∈ names)) = true then some (V.str x) else none) (by rw [List.length_map, List.length_map]) (by rw [List.length_map]; omega) (SqL.of hl'.1) nD ?_ ?_
      · intro i2 x2 H8 Q8 Z8 hx2 s8 hY hN
        obtain ⟨y2, hy2, rfl⟩ := strs_at' hx2
        refine ⟨rfl, _, rfl, .ref p2, rfl, p2, names.map V.str, rfl, .inl (SqL.of (s8 _ _ h2)), rfl, flat_strs names, ⟨_, rfl, ?_⟩⟩
        rw [if_pos rfl, inV_strs]
        refine ite2 (fun e => ?_) (fun e => ?_)
        · exact ⟨_, rfl, hY _ _ (by rw [List.getElem?_map, hy2]; exact congrArg some (if_pos e)) (Same.refl _)⟩
        · exact hN _ (by rw [List.getElem?_map, hy2]; exact congrArg some (if_neg e)) (Same.refl _)
      · intro H8 s8 hD8
        rw [fm_outside (fun x => !decide (x ∈ names))] at hD8
        have hs' := j.2.1
        have da := hs'.ne nD
        have fl := List.length_filter_le (fun x => !decide (x ∈ names)) xs
        refine ⟨a, p4, D0, inner, xs.filter fun x => !decide (x ∈ names), by show [V.ref a, V.int (((n + 1 : Nat) : Int) - 1), V.ref p4, V.ref D0] = _; rw [sub1], hs'.same s8, n4a, da, ⟨s8 _ _ h4, oki⟩, ⟨hD8, fun x hx => hl.2 x (List.mem_filter.mp hx).1⟩, by omega, by omega, fun v d H9 j9 rv ov => ?_⟩
        refine ⟨(by show 2 ≤ sizeLine; decide), fun t nt => ?_⟩
        have st := Same.new (o := .tup [V.str nm, v]) nt
        have ht : (upd H9 t (.tup [V.str nm, v])) t = some (.tup [V.str nm, v]) := upd_same
        generalize upd H9 t (.tup [V.str nm, v]) = Ha at st ht ⊢
        have j10 : Jst a H' Ha := (Jst.same hs' s8).trans (j9.trans (.same j9.2.1 st))
        have k5 := j10.2.2 _ _ n5a h5
        refine ⟨p5, zs, _, rfl, rfl, k5, by omega, ?_⟩
        have rt : Rdd K Ha (.ref t) (.tup [.str nm, d]) := tup_val ht (.cons (.str _) (.cons (Rdd.ex (.same st) _ rv) .nil)) (by simp)
        have ex : Ex Ha (upd Ha p5 (.lst (zs ++ [.ref t]))) := (Off.put (a := p5)).ex k5 upd_same
        refine ⟨_, _, ps ++ [(nm, d)], rfl, (jr_st a).put (j.trans j10) fresh5, by rw [upd_ne n25]; exact j10.2.2 _ _ n2a h2, by rw [upd_ne n45]; exact j10.2.2 _ _ n4a h4, upd_same, ?_, ?_, fun p hp => ?_⟩
        · have e : mkPs (ps ++ [(nm, d)]) = mkPs ps ++ [.tup [.str nm, d]] := List.map_append ..
          rw [e]
          exact (RddAll.ex ex _ (RddAll.ex ((jr_st a).ex j10) _ rz)).snoc (Rdd.ex ex _ rt)
        · rw [List.map_append, en, List.take_add_one, hnm]
          rfl
        · rcases List.mem_append.mp hp with hp | hp
          · exact op p hp
          · rw [List.mem_singleton.mp hp]
            exact ov
    · rintro σ' H' ⟨y, zs, ps, rfl, j, h2, h4, h5, rz, en, op⟩
      rw [List.length_map, List.take_length] at en
      have lz := rz.length
      have lps : ps.length = names.length := by
        have := congrArg List.length en
        rwa [List.length_map] at this
      have lm : (mkPs ps).length = ps.length := List.length_map ..
      have hd : DefOk ps := by
        refine ⟨by omega, by omega, fun p hp => okn _ (by rw [← en]; exact List.mem_map.mpr ⟨p, hp, rfl⟩), by rw [en]; exact ndn⟩
      have hs' := j.2.1
      refine ⟨.ref p5, rfl, p5, zs, rfl, .inl ⟨SqL.of h5, fun t nt => ?_⟩⟩
      have st := Same.new (o := .tup zs) nt
      have ht : (upd H' t (.tup zs)) t = some (.tup zs) := upd_same
      have ta := hs'.ne nt
      generalize upd H' t (.tup zs) = H8 at st ht ⊢
      refine ⟨.ref a, rfl, .int (n + 1 : Nat), rfl, _, _, rfl, rfl, .ref p4, rfl, a, p4, inner, by show [V.ref a, V.int (((n + 1 : Nat) : Int) - 1), V.ref p4] = _; rw [sub1], hs'.same st, n4a, ⟨st _ _ h4, oki⟩, by omega, fun v d H9 j9 rv ov => ?_⟩
      refine ⟨(by show 3 ≤ sizeLine; decide), fun m nm => ?_⟩
      have sm := Same.new (o := .tup [V.str "let", .ref t, v]) nm
      have hm : (upd H9 m (.tup [V.str "let", .ref t, v])) m = some (.tup [V.str "let", .ref t, v]) := upd_same
      generalize upd H9 m (.tup [V.str "let", .ref t, v]) = Ha at sm hm ⊢
      have j9a : Jst a H8 Ha := j9.trans (.same j9.2.1 sm)
      have j8a : Jst a H' Ha := (Jst.same hs' st).trans j9a
      have r1 : Rdd K Ha (.ref t) (.tup (mkPs ps)) := tup_val (j9a.2.2 _ _ ta ht) (RddAll.ex ((jr_st a).ex j8a) _ rz) (by omega)
      exact q _ (mkL ps d) _ (j.trans j8a) (tup_val hm (.cons (.str _) (.cons r1 (.cons (Rdd.ex (.same sm) _ rv) .nil))) (by simp)) (op_L hd (by omega) (fun p hp => op p hp) (ov.le (by omega)))
end
end Sl

set_option Elab.async false
set_option linter.all false
set_option maxRecDepth 100000
set_option maxHeartbeats 400000
namespace Sl
open PySem PySem.Spec PyProof.Rows L2
section
variable {P : Program} {w : World} {K : PySem.W.Frag} {mg : Str → Option Value} {base : Heap} {fSt fDr fPk fMx : Addr} {fdSt fdDr fdPk fdMx : FuncData} {fDn fBk fHd : Addr} {fdDn fdBk fdHd : FuncData}
/-- the empty promise -/
theorem ok_false {k : Nat} {f : Addr} {fd : FuncData} {ps : List Str} {CX : CXT} : FnOk P w K mg base CX k f fd ps (fun _ _ _ _ => False) :=
  ⟨fun _ _ _ _ h => h.elim, fun _ _ _ _ _ _ _ _ _ _ _ _ _ h => h.elim⟩
theorem ok_drawn (n : Nat) (k : Nat) (k2 : 2 ≤ k) {spN spB : Sp} (GN : FnOk P w K mg base CX0 k fDn fdDn ["_law_stream_here", "_law_deep", "_law_seen"] spN) (GB : FnOk P w K mg base CX0 (k + 2) fBk fdBk ["_law_stream_here", "_law_deep", "_law_seen"] spB)
    (hN : ∀ m, n = m + 1 → spN = spDrawn K m) (hB : ∀ m, n = m + 1 → spB = spBlock K m) (Y : Ld K mg fDn fBk fHd fdDn fdBk fdHd) (L : Lw K mg fSt fDr fPk fMx fdSt fdDr fdPk fdMx) (B : Bt mg) :
    FnOk P w K mg base CX0 (k + 3) fDn fdDn ["_law_stream_here", "_law_deep", "_law_seen"] (spDrawn K n) := by
  have GD : FnOk P w K mg base CX0 1 fDr fdDr ["_law_stream_here", "_law_high"] spDraw := g_draw L B
  have GP : FnOk P w K mg base CX0 2 fPk fdPk ["_law_stream_here", "_law_items"] (spPick K) := g_pick L B
  refine Y.FDn.ok scDrawn (fun vs H Q E h => ?_) (fun cdv A outer s H vs Q E hr h => ?_)
  · obtain ⟨a, l, xs, rfl, _⟩ := h
    rfl
  · obtain ⟨a, l, xs, rfl, hs, hla, hl, hb, q⟩ := h
    have h1 := hr.mono (by omega : 1 ≤ k + 2)
    have h2 := hr.mono (by omega : 2 ≤ k + 2)
    have hk := hr.mono (by omega : k ≤ k + 2)
    refine ⟨_, (pss_cons (ps_set (i := 3) scDrawn.nd rfl (Or.inl rfl) (pe_call GD h1 (by rfl) L.gDr L.FDr.kp L.bDr .nil pass0 (pa_cons (pv 0) (pa_cons pe_int pa_nil))))
      (C8.pss_cut (ps_if (PW.pt (pw_and (pt_cmpR (op_neD hr.units) (pv 2) (pe_lst pa_nil) (nomark _)) (pw_and1 (PW.pt (pw_or (pt_cmpR op_lt (pv 1) pe_int (nomark _)) (pw_or1 (pt_cmpR op_lt (pv 3) pe_int (nomark _))))))))
        (pss_one (ps_ret (pe_tup (pa_cons pe_str (pa_cons (pe_call GP h2 (by rfl) L.gPk L.FPk.kp L.bPk .nil pass0 (pa_cons (pv 0) (pa_cons (pv 2) pa_nil))) pa_nil))))) pss_nil)
      (pss_cons (ps_if (PW.pt (pw_or (pt_cmpR op_lt (pv 1) pe_int (nomark _)) (pw_or1 (pt_cmpR op_lt (pv 3) pe_int (nomark _)))))
        (pss_one (ps_ret (pe_tup (pa_cons pe_str (pa_cons (pe_call GP h2 (by rfl) L.gPk L.FPk.kp L.bPk .nil pass0 (pa_cons (pv 0) (pa_cons (pe_lst (pa_cons pe_str (pa_cons pe_str pa_nil))) pa_nil))) (pa_cons (pe_tup pa_nil) pa_nil)))))) pss_nil)
      (pss_cons (ps_if (pt_cmpR op_lt (pv 3) pe_int (nomark _))
        (pss_cons (ps_asg (pe_call GP h2 (by rfl) L.gPk L.FPk.kp L.bPk .nil pass0 (pa_cons (pv 0) (pa_cons (pe_lst (pa_cons (pe_tup (pa_cons pe_str (pa_cons pe_int pa_nil))) (pa_cons (pe_tup (pa_cons pe_str (pa_cons pe_int pa_nil))) (pa_cons (pe_tup (pa_cons pe_str (pa_cons pe_int pa_nil)))
            (pa_cons (pe_tup (pa_cons pe_str (pa_cons pe_int pa_nil))) (pa_cons (pe_tup (pa_cons pe_str (pa_cons pe_int pa_nil))) (pa_cons (pe_tup (pa_cons pe_str (pa_cons pe_int pa_nil))) pa_nil))))))) pa_nil))) (pg_tup (by rfl) (pgs_cons (pg_name (i := 4) scDrawn.nd rfl (Or.inl rfl)) (pgs_cons (pg_name (i := 5) scDrawn.nd rfl (Or.inl rfl)) pgs_nil))))
        (pss_one (ps_ret (pe_tup (pa_cons pe_str (pa_cons (pv 4) (pa_cons (pe_callTy call_tuple_of (by rfl) B.tuple (by decide +kernel) (pa_cons
          (pe_lc (own := [("_law_turn", 7)]) (g := gName 7) (tt := tYes) (te := tCall spN [] E0 (tCons (tVar 0) (tCons (tOp (rI0 fun i j => .int (i - j)) (tVar 1) (tC (.int 1))) (tCons (tVar 2) tNil)))) rfl scDrawn.nd (pi_range1 (by rfl) B.range (pa_cons (pv 5) pa_nil))
            (blkOk_by (own := [("_law_turn", 7)]) (N := ["_law_stream_here", "_law_deep", "_law_seen", "_law_way", "_law_sign_here", "_law_size", "_law_name_here", "_law_turn"]) (sc := defScope sDrawn) (by decide +kernel))
            (fun _ _ _ _ _ => pg_name (i := 7) scDrawn.nd rfl (Or.inl rfl)) (fun _ _ _ _ _ => pts_nil)
            (fun _ _ _ _ _ => by exact pe_call GN hk (by rfl) Y.gDn Y.FDn.kp Y.bDn .nil pass0 (pa_cons (pv 0) (pa_cons (pe_op op_sub (pv 1) pe_int) (pa_cons (pv 2) pa_nil))))) pa_nil)) pa_nil))))))) pss_nil)
      (pss_cons (ps_if (pt_cmpR op_lt (pv 3) pe_int (nomark _))
        (pss_cons (ps_set (i := 6) scDrawn.nd rfl (Or.inl rfl) (pe_call GP h2 (by rfl) L.gPk L.FPk.kp L.bPk .nil pass0 (pa_cons (pv 0) (pa_cons (pe_lst (pa_cons pe_str (pa_cons pe_str (pa_cons pe_str (pa_cons pe_str pa_nil))))) pa_nil))))
        (pss_one (ps_ret (pe_tup (pa_cons pe_str (pa_cons (pv 6) (pa_cons (pe_call GN hk (by rfl) Y.gDn Y.FDn.kp Y.bDn .nil pass0 (pa_cons (pv 0) (pa_cons (pe_op op_sub (pv 1) pe_int) (pa_cons (pe_op op_cat (pv 2) (pe_lst (pa_cons (pv 6) pa_nil))) pa_nil)))) pa_nil))))))) pss_nil)
      (pss_one (ps_ret (pe_call GB hr (by rfl) Y.gBk Y.FBk.kp Y.bBk .nil pass0 (pa_cons (pv 0) (pa_cons (pv 1) (pa_cons (pv 2) pa_nil))))))))))), ?_⟩
    have sl := sizeLine_eq
    refine ⟨.ref a, rfl, a, 10, rfl, hs, by decide, small_big (by decide), fun r H1 r0 r1 o1 hs1 => ?_⟩
    have j1 : Jst a H H1 := ⟨hs, hs1, o1⟩
    have hl1 := hl.ex j1 hla
    refine ⟨fun σ' H' => σ' = [some (.ref a), some (.int n), some (.ref l), some (.int r), none, none, none, none] ∧ Jst a H H', ?_, ?_⟩
    · refine ⟨.ref l, rfl, (by show 0 ≤ sizeLine; decide), fun p np => ?_⟩
      have s2 := Same.new (o := .lst []) np
      have hp : (upd H1 p (.lst [])) p = some (.lst []) := upd_same
      generalize upd H1 p (.lst []) = H2 at s2 hp ⊢
      have j2 := j1.trans (.same hs1 s2)
      have hl2 := hl.ex j2 hla
      have go : 1 ≤ xs.length → ∀ R : TS, (tRet (tTup (tCons (tC (.str "name")) (tCons (tCall (spPick K) [] E0 (tCons (tVar 0) (tCons (tVar 2) tNil))) tNil)))) { nx := fun σ' H' => σ' = [some (.ref a), some (.int n), some (.ref l), some (.int r), none, none, none, none] ∧ Jst a H H', rt := Q } [some (.ref a), some (.int n), some (.ref l), some (.int r), none, none, none, none] H2 := fun ne R => by
        refine ⟨.ref a, rfl, .ref l, rfl, a, l, _, rfl, j2.2.1, hla, SqL.of hl2.1, by rw [List.length_map]; exact ne, by rw [List.length_map]; omega, fun i x H3 hx o3 hs3 => ?_⟩
        obtain ⟨y, hy, rfl⟩ := strs_at' hx
        have j3 : Jst a H H3 := j2.trans ⟨j2.2.1, hs3, o3⟩
        refine ⟨(by show 2 ≤ sizeLine; decide), fun t nt => ?_⟩
        have st := Same.new (o := .tup [V.str "name", .str y]) nt
        exact q _ (mkU y) _ (j3.trans (.same hs3 st)) (tup_val upd_same (.cons (.str _) (.cons (.str _) .nil)) (by simp)) (op_U (n := 2 * n) (hl.2 y (List.mem_of_getElem? hy)))
      refine ne_nil hl.2 (SqL.of hl2.1) (SqL.of hp) ⟨_, rfl, ite2 (fun e2 => ?_) (fun e2 => ⟨rfl, j2⟩)⟩
      have ne : 1 ≤ xs.length := by
        cases xs with
        | nil => cases e2
        | cons y ys => simp
      refine ⟨_, rfl, _, _, rfl, rfl, _, rfl, ite2 (fun e3 => go ne tNext) (fun e3 => ?_)⟩
      exact ⟨_, rfl, _, _, rfl, rfl, _, rfl, ite2 (fun e4 => go ne tNext) (fun e4 => ⟨rfl, j2⟩)⟩
    · rintro σ' H2 ⟨rfl, j2⟩
      have hl2 := hl.ex j2 hla
      have hs2 := j2.2.1
      have leaf : (tRet (tTup (tCons (tC (.str "word")) (tCons (tCall (spPick K) [] E0 (tCons (tVar 0) (tCons (tLst (tCons (tC (.str "k")) (tCons (tC (.str "m")) tNil))) tNil))) (tCons (tTup tNil) tNil))))) { nx := fun _ H' => Q .non H', rt := Q } [some (.ref a), some (.int n), some (.ref l), some (.int r), none, none, none, none] H2 := by
        refine ⟨.ref a, rfl, pick_gv (G := H2) (gva_cons (gv_str "k") (gva_cons (gv_str "m") gva_nil)) (Same.refl _) hs2 (by decide) (by decide) fun x d H3 hd j3 rd => ?_⟩
        obtain ⟨y, rfl, hy⟩ : ∃ y, d = .str y ∧ nmOk y = true := by
          simp only [List.mem_cons, List.not_mem_nil, or_false] at hd
          rcases hd with rfl | rfl
          · exact ⟨_, rfl, nm_k⟩
          · exact ⟨_, rfl, nm_m⟩
        cases rd
        refine ⟨(by show 0 ≤ sizeLine; decide), fun t1 n1 => ?_⟩
        have s4 := Same.new (o := .tup []) n1
        have h4 : (upd H3 t1 (.tup [])) t1 = some (.tup []) := upd_same
        generalize upd H3 t1 (.tup []) = H4 at s4 h4 ⊢
        refine ⟨(by show 3 ≤ sizeLine; decide), fun t2 n2 => ?_⟩
        have s5 := Same.new (o := .tup [V.str "word", .str y, .ref t1]) n2
        exact q _ (mkW y []) _ ((j2.trans j3).trans (.same j3.2.1 (s4.trans s5))) (tup_val upd_same (.cons (.str _) (.cons (.str _) (.cons (tup_val (s5 _ _ h4) .nil (Nat.zero_le _)) .nil))) (by simp)) (op_W (n := 2 * n) hy (Nat.zero_le _) fun e he => by cases he)
      refine ⟨_, rfl, _, _, rfl, rfl, _, rfl, ite2 (fun e3 => leaf) (fun e3 => ?_)⟩
      refine ⟨_, rfl, _, _, rfl, rfl, _, rfl, ite2 (fun e4 => leaf) (fun e4 => ?_)⟩
      obtain ⟨m, rfl⟩ : ∃ m, n = m + 1 := by
        cases n with
        | zero => exact absurd (decide_eq_true (by decide)) e3
        | succ m => exact ⟨m, rfl⟩
      have eN := hN m rfl
      have eB := hB m rfl
      subst eN
      subst eB
      refine ⟨_, rfl, _, _, rfl, rfl, _, rfl, ite2 (fun e5 => ?_) (fun e5 => ?_)⟩
      · refine ⟨.ref a, rfl, pick_gv (G := H2) (gva_cons gv_pair (gva_cons gv_pair (gva_cons gv_pair (gva_cons gv_pair (gva_cons gv_pair (gva_cons gv_pair gva_nil)))))) (Same.refl _) hs2 (by simp) (by simp) fun x d H3 hd j3 rd => ?_⟩
        obtain ⟨y, c, rfl, hy, hm⟩ : SgOk d := by
          simp only [List.mem_cons, List.not_mem_nil, or_false] at hd
          rcases hd with rfl | rfl | rfl | rfl | rfl | rfl
          · exact ⟨_, 1, rfl, nm_f, by decide⟩
          · exact ⟨_, 1, rfl, nm_g, by decide⟩
          · exact ⟨_, 2, rfl, nm_at, by decide⟩
          · exact ⟨_, 2, rfl, nm_at, by decide⟩
          · exact ⟨_, 2, rfl, nm_pair, by decide⟩
          · exact ⟨_, 3, rfl, nm_f, by decide⟩
        obtain ⟨t, us, rfl, ht, hus, _⟩ := rd.tupd'
        obtain ⟨u1, u2, rfl, r1, r2⟩ := hus.pair
        cases r1
        cases r2
        have hl3 := hl2.ex j3 hla
        have hs3 := j3.2.1
        refine ⟨t, _, rfl, ht, rfl, _, _, rfl, _, _, rfl, rfl, ?_⟩
        refine ⟨_, rfl, .int c, rfl, (c : Int), rfl, by omega, by omega, fun D0 nD => ?_⟩
        refine lcJR (K := K) (J := Jst a) (Pd := fun _ d => OpN (2 * m + 1) d) (jr_st a) (.refl hs3) (by omega) nD ?_ ?_
        · intro i H4 Q4 Z4 _ j4 hQ
          refine ⟨rfl, ?_⟩
          refine iteT (B := Z4 H4) ⟨.ref a, rfl, .int (m + 1 : Nat), rfl, _, _, rfl, rfl, .ref l, rfl, a, l, xs, by show [V.ref a, V.int (((m + 1 : Nat) : Int) - 1), V.ref l] = _; rw [sub1], j4.2.1, hla, hl3.ex j4 hla, by omega, fun v d H5 j5 rv ov => hQ v H5 d j5 rv ov⟩
        · intro H4 zs ds j4 hD rz lz hds
          have ld : ds.length ≤ 3 := by omega
          refine ⟨D0, zs, rfl, .inl ⟨SqL.of hD, fun t1 n1 => ?_⟩⟩
          have s5 := Same.new (o := .tup zs) n1
          have h5 : (upd H4 t1 (.tup zs)) t1 = some (.tup zs) := upd_same
          generalize upd H4 t1 (.tup zs) = H5 at s5 h5 ⊢
          refine ⟨(by show 3 ≤ sizeLine; decide), fun t2 n2 => ?_⟩
          have s6 := Same.new (o := .tup [V.str "word", .str y, .ref t1]) n2
          have j6 : Jst a H (upd H5 t2 (.tup [V.str "word", .str y, .ref t1])) := (j2.trans j3).trans (j4.trans (.same j4.2.1 (s5.trans s6)))
          have r1 : Rdd K (upd H5 t2 (.tup [V.str "word", .str y, .ref t1])) (.ref t1) (.tup ds) := tup_val (s6 _ _ h5) (RddAll.ex (.same (s5.trans s6)) _ rz) (by omega)
          exact q _ (mkW y ds) _ j6 (tup_val upd_same (.cons (.str _) (.cons (.str _) (.cons r1 .nil))) (by simp)) (op_W hy ld fun e he => by
            obtain ⟨i, hi, rfl⟩ := List.getElem_of_mem he
            exact (hds i _ (List.getElem?_eq_getElem hi)).le (by omega))
      · refine ⟨_, rfl, _, _, rfl, rfl, _, rfl, ite2 (fun e6 => ?_) (fun e6 => ?_)⟩
        · refine ⟨.ref a, rfl, pick_gv (G := H2) (gva_cons (gv_str "a") (gva_cons (gv_str "b") (gva_cons (gv_str "c") (gva_cons (gv_str "x") gva_nil)))) (Same.refl _) hs2 (by decide) (by decide) fun x d H3 hd j3 rd => ?_⟩
          obtain ⟨y, rfl, hy⟩ : ∃ y, d = .str y ∧ nmOk y = true := by
            simp only [List.mem_cons, List.not_mem_nil, or_false] at hd
            rcases hd with rfl | rfl | rfl | rfl
            · exact ⟨_, rfl, nm_a⟩
            · exact ⟨_, rfl, nm_b⟩
            · exact ⟨_, rfl, nm_c⟩
            · exact ⟨_, rfl, nm_x⟩
          cases rd
          have hl3 := hl2.ex j3 hla
          refine ⟨_, rfl, .ref a, rfl, .int (m + 1 : Nat), rfl, _, _, rfl, rfl, .ref l, rfl, _, rfl, (by show 1 ≤ sizeLine; decide), fun p np => ?_⟩
          have s4 := Same.new (o := .lst [V.str y]) np
          have hp : (upd H3 p (.lst [V.str y])) p = some (.lst [V.str y]) := upd_same
          generalize upd H3 p (.lst [V.str y]) = H4 at s4 hp ⊢
          have hs4 := j3.2.1.same s4
          refine ⟨l, p, xs.map V.str, [V.str y], rfl, rfl, s4 _ _ hl3.1, hp, by rw [List.length_map]; simp; omega, fun p2 np2 => ?_⟩
          have s5 := Same.new (o := .lst (xs.map V.str ++ [V.str y])) np2
          have hp2 : (upd H4 p2 (.lst (xs.map V.str ++ [V.str y]))) p2 = some (.lst (xs.map V.str ++ [V.str y])) := upd_same
          generalize upd H4 p2 (.lst (xs.map V.str ++ [V.str y])) = H5 at s5 hp2 ⊢
          have e2 : xs.map V.str ++ [V.str y] = (xs ++ [y]).map V.str := by rw [List.map_append] <;> rfl
          rw [e2] at hp2
          have hs5 := hs4.same s5
          have j5 : Jst a H H5 := (j2.trans j3).trans ((Jst.same j3.2.1 s4).trans (.same hs4 s5))
          refine ⟨a, p2, xs ++ [y], by show [V.ref a, V.int (((m + 1 : Nat) : Int) - 1), V.ref p2] = _; rw [sub1], hs5, hs4.ne np2, ⟨hp2, fun z hz => ?_⟩, by rw [List.length_append]; simp; omega, fun v d H6 j6 rv ov => ?_⟩
          · rcases List.mem_append.mp hz with hz | hz
            · exact hl.2 z hz
            · rw [List.mem_singleton.mp hz]
              exact hy
          · refine ⟨(by show 3 ≤ sizeLine; decide), fun t nt => ?_⟩
            have st := Same.new (o := .tup [V.str "fun", .str y, v]) nt
            exact q _ (mkF y d) _ ((j5.trans j6).trans (.same j6.2.1 st)) (tup_val upd_same (.cons (.str _) (.cons (.str _) (.cons (Rdd.ex (.same st) _ rv) .nil))) (by simp)) (op_F hy (ov.le (by omega)))
        · exact ⟨_, rfl, _, rfl, _, rfl, a, l, xs, rfl, hs2, hla, hl2, hb, fun v d H3 j3 rv ov => q v d H3 (j2.trans j3) rv (ov.le (by omega))⟩
/-- drawn terms of any depth -/
theorem all_drawn (Y : Ld K mg fDn fBk fHd fdDn fdBk fdHd) (L : Lw K mg fSt fDr fPk fMx fdSt fdDr fdPk fdMx) (B : Bt mg) : ∀ n, FnOk P w K mg base CX0 (5 + 3 * n) fDn fdDn ["_law_stream_here", "_law_deep", "_law_seen"] (spDrawn K n)
  | 0 => ok_drawn 0 2 (by decide) ok_false ok_false (fun m h => by cases h) (fun m h => by cases h) Y L B
  | n + 1 => by
    have G := all_drawn Y L B n
    have GB := ok_block n (5 + 3 * n) (by omega) G Y L B
    exact ok_drawn (n + 1) (5 + 3 * n) (by omega) G GB (fun m h => by cases h; rfl) (fun m h => by cases h; rfl) Y L B
end
end Sl

set_option Elab.async false
set_option linter.all false
set_option maxRecDepth 100000
set_option maxHeartbeats 400000
namespace Sl
open PySem PySem.Spec PyProof.Rows L2
abbrev sPart : Stmt := topT 35
theorem scPart : FnScope ["_law_root", "_law_path", "_law_spot"] ["_law_root", "_law_path"] (defScope sPart) := ⟨rfl, rfl, rfl, by decide +kernel, rfl, by decide +kernel, by decide +kernel⟩
/-- a path of an open term -/
def PathOf : List Nat → D → Prop
  | [], _ => True
  | i :: p, d => ∃ e, (inn d)[i]? = some e ∧ PathOf p e
def subD : List Nat → D → D
  | [], d => d
  | i :: p, d => match (inn d)[i]? with
    | some e => subD p e
    | none => d
theorem sub_ok : ∀ {p : List Nat} {d : D} {n : Nat}, PathOf p d → OpN n d → OpN (n - p.length) (subD p d) ∧ p.length < n
  | [], d, n, _, h => ⟨h, by
    cases n with
    | zero => exact h.elim
    | succ n => exact Nat.succ_pos n⟩
  | i :: p, d, 0, _, h => h.elim
  | i :: p, d, n + 1, ⟨e, he, hp⟩, h => by
    have h1 := (OpN.s.mp h).2 e (List.mem_of_getElem? he)
    have h2 := sub_ok hp h1
    have e1 : subD (i :: p) d = subD p e := by
      show (match (inn d)[i]? with | some e => subD p e | none => d) = _
      rw [he]
    rw [e1, List.length_cons, Nat.succ_sub_succ]
    exact ⟨h2.1, by omega⟩
section
variable {P : Program} {w : World} {K : PySem.W.Frag} {mg : Str → Option Value} {base : Heap}
/-- the law's small ones -/
structure Lp (K : PySem.W.Frag) (mg : Str → Option Value) (fIn fPa : Addr) (fdIn fdPa : FuncData) : Prop where
  FIn : Fun K "_law_inner" "_law_inner" sInner fIn fdIn
  bIn : Binds K fdIn ["_law_part_here"] []
  gIn : mg "_law_inner" = some (.ref fIn)
  FPa : Fun K "_law_part" "_law_part" sPart fPa fdPa
  bPa : Binds K fdPa ["_law_root", "_law_path"] []
  gPa : mg "_law_part" = some (.ref fPa)
variable {fIn fPa : Addr} {fdIn fdPa : FuncData}
theorem ok_inner (T : Lp K mg fIn fPa fdIn fdPa) (B : Bt mg) : FnOk P w K mg base CX0 1 fIn fdIn ["_law_part_here"] (spInn K) := by
  refine T.FIn.ok scInner (fun vs H Q E h => ?_) (fun cdv A outer s H vs Q E hr h => ?_)
  · obtain ⟨v, d, rfl, _⟩ := h
    rfl
  · obtain ⟨v, d, rfl, hv, hb, q⟩ := h
    refine ⟨_, (pss_cons (ps_if (pt_cmpR op_eq (pe_ix ix_tup (pv 0) pe_int (fun _ _ => rfl)) pe_str (nomark _))
        (pss_one (ps_ret (pe_ix ix_tup (pv 0) pe_int (fun _ _ => rfl)))) pss_nil)
      (pss_cons (ps_if (pt_cmpR op_eq (pe_ix ix_tup (pv 0) pe_int (fun _ _ => rfl)) pe_str (nomark _))
        (pss_one (ps_ret (pe_tup (pa_cons (pe_ix ix_tup (pv 0) pe_int (fun _ _ => rfl)) pa_nil)))) pss_nil)
      (pss_one (ps_ret (pe_ifExp (pt_cmpR op_eq (pe_ix ix_tup (pv 0) pe_int (fun _ _ => rfl)) pe_str (nomark _)) (pe_op op_catT (pe_callTy call_tuple_of (by rfl) B.tuple (by decide +kernel) (pa_cons
          (pe_lc (own := [("_law_name_here", 1), ("_law_inner_here", 2)]) (g := gTup K 2 (gCons (gName 1) (gCons (gName 2) gNil))) (tt := tYes) rfl scInner.nd (pi_tup (pe_ix ix_tup (pv 0) pe_int (fun _ _ => rfl))) (blkOk_by (own := [("_law_name_here", 1), ("_law_inner_here", 2)]) (N := ["_law_part_here", "_law_name_here", "_law_inner_here"]) (sc := defScope sInner) (by decide +kernel))
            (fun _ _ _ _ _ => pg_tup rfl (pgs_cons (pg_name (i := 1) scInner.nd rfl (Or.inl rfl)) (pgs_cons (pg_name (i := 2) scInner.nd rfl (Or.inl rfl)) pgs_nil))) (fun _ _ _ _ _ => pts_nil)
            (fun _ _ _ _ _ => pv 2)) pa_nil)) (pe_tup (pa_cons (pe_ix ix_tup (pv 0) pe_int (fun _ _ => rfl)) pa_nil))) (pe_tup pa_nil)))))), ?_⟩
    rcases built_cases hb with ⟨x, rfl, _⟩ | ⟨x, l, rfl, _, hl⟩ | ⟨x, b, rfl, _⟩ | ⟨ps, b, rfl, hp⟩
    · obtain ⟨a, xs, rfl, hs, hx, _⟩ := hv.tupd'
      obtain ⟨x1, x2, rfl, r1, r2⟩ := hx.pair
      cases r1
      refine ⟨.ref a, rfl, a, _, 0, _, rfl, rfl, hs, atI_nat (j := 0) rfl, rfl, _, rfl, ?_⟩
      rw [str_dec, decide_eq_false (by decide +kernel : ¬ ("name" : Str) = "word")]
      refine iteF ⟨.ref a, rfl, a, _, 0, _, rfl, rfl, hs, atI_nat (j := 0) rfl, rfl, _, rfl, ?_⟩
      rw [str_dec, decide_eq_false (by decide +kernel : ¬ ("name" : Str) = "fun")]
      refine iteF ⟨.ref a, rfl, a, _, 0, _, rfl, rfl, hs, atI_nat (j := 0) rfl, rfl, _, rfl, ?_⟩
      rw [str_dec, decide_eq_false (by decide +kernel : ¬ ("name" : Str) = "let")]
      refine iteF ⟨(by show 0 ≤ sizeLine; decide), fun p np => ?_⟩
      exact q _ _ (Same.new np) (.tup (SqT.of upd_same) .nil (Nat.zero_le _))
    · obtain ⟨a, xs, rfl, hs, hx, _⟩ := hv.tupd'
      obtain ⟨x1, x2, x3, rfl, r1, r2, r3⟩ := hx.trip
      cases r1
      refine ⟨.ref a, rfl, a, _, 0, _, rfl, rfl, hs, atI_nat (j := 0) rfl, rfl, _, rfl, ?_⟩
      rw [str_dec, decide_eq_true rfl]
      refine iteT ⟨.ref a, rfl, a, _, 2, _, rfl, rfl, hs, atI_nat (j := 2) rfl, q _ _ (Same.refl _) ?_⟩
      rw [inn_W]
      exact r3
    · obtain ⟨a, xs, rfl, hs, hx, _⟩ := hv.tupd'
      obtain ⟨x1, x2, x3, rfl, r1, r2, r3⟩ := hx.trip
      cases r1
      refine ⟨.ref a, rfl, a, _, 0, _, rfl, rfl, hs, atI_nat (j := 0) rfl, rfl, _, rfl, ?_⟩
      rw [str_dec, decide_eq_false ne_wf]
      refine iteF ⟨.ref a, rfl, a, _, 0, _, rfl, rfl, hs, atI_nat (j := 0) rfl, rfl, _, rfl, ?_⟩
      rw [str_dec, decide_eq_true rfl]
      refine iteT ⟨.ref a, rfl, a, _, 2, _, rfl, rfl, hs, atI_nat (j := 2) rfl, (by show 1 ≤ sizeLine; decide), fun p np => ?_⟩
      have sm := Same.new (o := .tup [x3]) np
      rw [inn_F] at q
      exact q _ _ sm (.tup (SqT.of upd_same) (.cons (Rdd.ex (.same sm) _ r3) .nil) (by simp))
    · obtain ⟨a, xs, rfl, hs, hx, _⟩ := hv.tupd'
      obtain ⟨x1, x2, x3, rfl, r1, r2, r3⟩ := hx.trip
      cases r1
      obtain ⟨c, ys, rfl, hc, hy, hyz⟩ := r2.tupd'
      refine ⟨.ref a, rfl, a, _, 0, _, rfl, rfl, hs, atI_nat (j := 0) rfl, rfl, _, rfl, ?_⟩
      rw [str_dec, decide_eq_false ne_wl]
      refine iteF ⟨.ref a, rfl, a, _, 0, _, rfl, rfl, hs, atI_nat (j := 0) rfl, rfl, _, rfl, ?_⟩
      rw [str_dec, decide_eq_false ne_fl]
      refine iteF ⟨.ref a, rfl, a, _, 0, _, rfl, rfl, hs, atI_nat (j := 0) rfl, rfl, _, rfl, ?_⟩
      rw [str_dec, decide_eq_true rfl]
      refine iteT ?_
      obtain ⟨us, ru, lu, at'⟩ := hy.snds
      have ly := hy.length
      have lp : (mkPs ps).length = ps.length := List.length_map ..
      have sl := sizeLine_eq
      have hp1 := hp.1
      have hp2 := hp.2.1
      refine ⟨.ref a, rfl, a, _, 1, .ref c, rfl, rfl, hs, atI_nat (j := 1) rfl, c, rfl, ⟨_, hc⟩, fun D0 nD => lcT (us.map some) (by rw [List.length_map, lu]) (by omega) hc nD ?_ ?_⟩
      · intro i x H2 Q2 Z2 hx sm hQ _
        obtain ⟨e, y, u, rfl, he, hu, _⟩ := at' i x hx
        refine ⟨e, _, rfl, (Ex.same sm).tup he, rfl, _, _, rfl, _, _, rfl, rfl, rfl, ?_⟩
        refine iteT (B := Z2 H2) ⟨_, rfl, hQ _ _ ?_ (Same.refl _)⟩
        rw [List.getElem?_map, hu]
        rfl
      · intro H2 sm hl2
        rw [fm_snd] at hl2
        refine ⟨D0, us, rfl, .inl ⟨SqL.of hl2, fun p1 n1 => ?_⟩⟩
        have sm1 := Same.new (o := .tup us) n1
        have hp1' : (upd H2 p1 (.tup us)) p1 = some (.tup us) := upd_same
        generalize upd H2 p1 (.tup us) = H3 at sm1 hp1' ⊢
        have s3 := sm.trans sm1
        refine ⟨.ref a, rfl, a, _, 2, x3, rfl, rfl, (Ex.same s3).tup hs, atI_nat (j := 2) rfl, (by show 1 ≤ sizeLine; decide), fun p2 n2 => ?_⟩
        have sm2 := Same.new (o := .tup [x3]) n2
        have hp2' : (upd H3 p2 (.tup [x3])) p2 = some (.tup [x3]) := upd_same
        generalize upd H3 p2 (.tup [x3]) = H4 at sm2 hp2' ⊢
        refine ⟨p1, p2, us, [x3], rfl, rfl, SqT.of (sm2 _ _ hp1'), SqT.of hp2', fun z => ?_, (by show us.length + 1 ≤ sizeLine; omega), (fun z => nomatch z), fun _ p3 n3 => ?_⟩
        · rw [z] at lu
          have : (0 : Nat) = ys.length := lu
          omega
        · have sm3 := Same.new (o := .tup (us ++ [x3])) n3
          have s5 := (s3.trans sm2).trans sm3
          rw [inn_L] at q
          refine q _ _ s5 (.tup (SqT.of upd_same) ((RddAll.ex (.same s5) _ ru).app (.cons (Rdd.ex (.same s5) _ r3) .nil)) ?_)
          rw [List.length_append, List.length_map]
          simp
          omega
def spPart (K : PySem.W.Frag) : Sp := fun vs H Q _ => ∃ (v : V) (d : D) (t : Addr) (p : List Nat) (n : Nat), vs = [v, .ref t] ∧ Rdd K H v d ∧ OpN n d ∧ SqT K H t (p.map fun i => V.int (i : Nat)) ∧ PathOf p d ∧ ∀ r H', Same H H' → Rdd K H' r (subD p d) → Q r H'
theorem ok_part (T : Lp K mg fIn fPa fdIn fdPa) (B : Bt mg) : FnOk P w K mg base CX0 2 fPa fdPa ["_law_root", "_law_path"] (spPart K) := by
  have GI : FnOk P w K mg base CX0 1 fIn fdIn ["_law_part_here"] (spInn K) := ok_inner T B
  refine T.FPa.ok scPart (fun vs H Q E h => ?_) (fun cdv A outer s H vs Q E hr h => ?_)
  · obtain ⟨v, d, t, p, n, rfl, _⟩ := h
    rfl
  · obtain ⟨v, d, t, p, n, rfl, hv, ho, ht, hp, q⟩ := h
    refine ⟨_, pss_cons (ps_for PassesOwn.never rfl (pi_tup (pv 1)) (pg_name (i := 2) scPart.nd rfl (Or.inl rfl))
        (pss_one (ps_set (i := 0) scPart.nd rfl (Or.inl rfl) (pe_ix ix_tup (pe_call GI hr (by rfl) T.gIn T.FIn.kp T.bIn .nil pass0 (pa_cons (pv 0) pa_nil)) (pv 2) (fun _ _ => rfl)))))
      (pss_one (ps_ret (pv 0))), ?_⟩
    refine ⟨.ref t, rfl, t, rfl, ⟨_, ht⟩, for_tup (K := K) (xs := p.map fun i => V.int (i : Nat)) (fun i σ' H' => ∃ u e y m, σ' = [some u, some (.ref t), y] ∧ Same H H' ∧ Rdd K H' u e ∧ OpN m e ∧ PathOf (p.drop i) e ∧ subD (p.drop i) e = subD p d)
      ⟨v, d, none, n, rfl, Same.refl _, hv, ho, hp, rfl⟩ ?_ ?_ ?_⟩
    · rintro i σ' H' _ ⟨u, e, y, m, rfl, s, _⟩
      exact (Ex.same s).tup ht
    · rintro i x σ' H' hx ⟨u, e, y, m, rfl, s, ru, om, pe, es⟩
      rw [List.getElem?_map] at hx
      obtain ⟨j, hj, rfl⟩ := Option.map_eq_some_iff.mp hx
      have hlt := (List.getElem?_eq_some_iff.mp hj).1
      have ed : p.drop i = j :: p.drop (i + 1) := by
        rw [List.drop_eq_getElem_cons hlt, (List.getElem?_eq_some_iff.mp hj).2]
      rw [ed] at pe es
      obtain ⟨e2, he2, pe2⟩ := pe
      cases m with
      | zero => exact om.elim
      | succ m =>
        have om' := OpN.s.mp om
        refine ⟨u, rfl, u, e, rfl, ru, om'.1.1, fun r H2 s2 rr => ?_⟩
        obtain ⟨b, us, rfl, hb, hus, _⟩ := rr.tupd'
        obtain ⟨u2, hu2, ru2⟩ := hus.at he2
        refine ⟨_, rfl, b, us, j, u2, rfl, rfl, hb, atI_nat hu2, ?_⟩
        refine ⟨u2, e2, _, m, rfl, s.trans s2, ru2, om'.2 e2 (List.mem_of_getElem? he2), pe2, ?_⟩
        rw [← es]
        show _ = (match (inn e)[j]? with | some e => subD (p.drop (i + 1)) e | none => e)
        rw [he2]
    · rintro σ' H' ⟨u, e, y, m, rfl, s, ru, om, pe, es⟩
      rw [List.length_map, List.drop_length] at es
      refine ⟨u, rfl, q u H' s ?_⟩
      rw [← es]
      exact ru
end
end Sl

set_option Elab.async false
set_option linter.all false
set_option maxRecDepth 100000
set_option maxHeartbeats 400000
/-! ## Open terms with other terms in them -/
namespace Sl
open PySem PySem.Spec PyProof.Rows L2
def with3 (s : Str) (b c : D) (ds : List D) : D :=
  if s = "word" then .tup [.str s, b, .tup ds] else if s = "fun" then .tup [.str s, b, ds.headD c] else .tup [.str s, .tup (mkPs ((b.items.map D.fst).zip ds.dropLast)), ds.getLastD c]
def withI (d : D) (ds : List D) : D := match d with
  | .tup [.str s, b, c] => with3 s b c ds
  | d => d
def D.isU : D → Bool
  | .tup [_, _] => true
  | _ => false
theorem with_W (x : Str) (l ds : List D) : withI (mkW x l) ds = mkW x ds := by
  show with3 "word" (.str x) (.tup l) ds = _
  unfold with3
  rw [if_pos rfl]
  rfl
theorem with_F (x : Str) (b e : D) : withI (mkF x b) [e] = mkF x e := by
  show with3 "fun" (.str x) b [e] = _
  unfold with3
  rw [if_neg ne_wf, if_pos rfl]
  rfl
theorem with_L (ps : List (Str × D)) (b e : D) (ds : List D) : withI (mkL ps b) (ds ++ [e]) = mkL ((ps.map (·.1)).zip ds) e := by
  show with3 "let" (.tup (mkPs ps)) b (ds ++ [e]) = _
  unfold with3
  rw [if_neg ne_wl, if_neg ne_fl, List.dropLast_concat]
  show D.tup [_, .tup (mkPs (((mkPs ps).map D.fst).zip ds)), _] = _
  rw [mkPs_fst]
  have e1 : (ds ++ [e]).getLastD b = e := by simp
  rw [e1]
  rfl
theorem zip_fst {ps : List (Str × D)} {ds : List D} (h : ds.length = ps.length) : (((ps.map (·.1)).zip ds).map (·.1)) = ps.map (·.1) := by
  rw [List.map_fst_zip]
  rw [List.length_map]
  omega
theorem zip_snd {ps : List (Str × D)} {ds : List D} (h : ds.length = ps.length) : (((ps.map (·.1)).zip ds).map (·.2)) = ds := by
  rw [List.map_snd_zip]
  rw [List.length_map]
  omega
theorem zip_ok {ps : List (Str × D)} {ds : List D} (h : DefOk ps) (hl : ds.length = ps.length) : DefOk ((ps.map (·.1)).zip ds) := by
  have e := zip_fst hl
  have l : ((ps.map (·.1)).zip ds).length = ps.length := by rw [List.length_zip, List.length_map]; omega
  refine ⟨by rw [l]; exact h.1, by rw [l]; exact h.2.1, fun p hp => ?_, by rw [e]; exact h.2.2.2⟩
  have : p.1 ∈ ps.map (·.1) := by
    rw [← e]
    exact List.mem_map.mpr ⟨p, hp, rfl⟩
  obtain ⟨q, hq, e2⟩ := List.mem_map.mp this
  rw [← e2]
  exact h.2.2.1 q hq
theorem last_split {ds : List D} {n : Nat} (h : ds.length = n + 1) : ∃ l e, ds = l ++ [e] ∧ l.length = n := by
  have hne : ds ≠ [] := fun z => by rw [z] at h; cases h
  refine ⟨ds.dropLast, ds.getLast hne, (List.dropLast_concat_getLast hne).symm, ?_⟩
  rw [List.length_dropLast]
  omega
/-- the same form, other terms in it -/
theorem with_ok {d : D} {ds : List D} (h : built d = true) (hu : d.isU = false) (hl : ds.length = (inn d).length) : built (withI d ds) = true ∧ inn (withI d ds) = ds ∧ (withI d ds).isU = false := by
  rcases built_cases h with ⟨x, rfl, _⟩ | ⟨x, l, rfl, hx, hz⟩ | ⟨x, b, rfl, hx⟩ | ⟨ps, b, rfl, hp⟩
  · cases hu
  · rw [inn_W] at hl
    rw [with_W, inn_W, built_W, hx, decide_eq_true (by omega)]
    exact ⟨rfl, rfl, rfl⟩
  · rw [inn_F] at hl
    match ds, hl with
    | [e], _ =>
      rw [with_F, inn_F, built_F]
      exact ⟨hx, rfl, rfl⟩
  · rw [inn_L, List.length_append, List.length_map] at hl
    obtain ⟨l, e, rfl, hll⟩ := last_split hl
    rw [with_L, inn_L, zip_snd hll]
    exact ⟨built_L.mpr (zip_ok hp hll), rfl, rfl⟩
def putD : List Nat → D → D → D
  | [], _, e => e
  | i :: p, d, e => match (inn d)[i]? with
    | some c => withI d ((inn d).set i (putD p c e))
    | none => d
theorem isU_inn {d e : D} {i : Nat} (h : built d = true) (hi : (inn d)[i]? = some e) : d.isU = false := by
  rcases built_cases h with ⟨x, rfl, _⟩ | ⟨x, l, rfl, hx, hz⟩ | ⟨x, b, rfl, hx⟩ | ⟨ps, b, rfl, hp⟩
  · rw [inn_U] at hi
    cases hi
  · rfl
  · rfl
  · rfl
theorem put_bad {e : D} {m : Nat} (hb : Bad m e) (hh : ∀ k, HdN k e) : ∀ {p : List Nat} {d : D} {n : Nat}, PathOf p d → OpN n d → Bad (m + p.length) (putD p d e) ∧ ∀ k, HdN k (putD p d e)
  | [], d, n, _, _ => ⟨hb, hh⟩
  | i :: p, d, 0, _, h => h.elim
  | i :: p, d, n + 1, ⟨c, hc, hp⟩, h => by
    have h1 := h.1.1
    have hl : ((inn d).set i (putD p c e)).length = (inn d).length := List.length_set
    have w := with_ok h1 (isU_inn h1 hc) hl
    have ih := put_bad hb hh hp (h.2 c (List.mem_of_getElem? hc))
    have e1 : putD (i :: p) d e = withI d ((inn d).set i (putD p c e)) := by
      show (match (inn d)[i]? with | some c => withI d ((inn d).set i (putD p c e)) | none => d) = _
      rw [hc]
    have hi := (List.getElem?_eq_some_iff.mp hc).1
    rw [e1]
    refine ⟨.inr ⟨putD p c e, ?_, ih.1⟩, fun k => ?_⟩
    · rw [w.2.1]
      exact List.mem_of_getElem? (List.getElem?_set_self hi)
    · cases k with
      | zero => trivial
      | succ k =>
        refine ⟨built_hd w.1, fun x hx => ?_⟩
        rw [w.2.1] at hx
        rcases List.mem_or_eq_of_mem_set hx with hx | rfl
        · exact (h.2 x hx).hd k
        · exact ih.2 k
end Sl

set_option Elab.async false
set_option linter.all false
set_option maxRecDepth 100000
set_option maxHeartbeats 1000000
/-! ## sorted, of tuples of ints of any lengths, the first one empty; of pairs of a string and an int -/
namespace Sl
open PySem PySem.Spec PyProof.Rows L2
section
variable {prog : Program} {w : World} {A : Around} {E : Value → Shared → Prop} {s : Shared}
/-- v is a tuple of these ints -/
def Tin (h : Heap) (v : Value) (ns : List Int) : Prop := ∃ a its, v = .ref a ∧ IsTup h a its ∧ IntsAre its.toList ns
theorem Tin.keep {h h' : Heap} {v : Value} {ns : List Int} {a : Addr} (x : Tin h v ns) (na : ∀ o, h.get? a = some o → o.cls ≠ .type "tuple") (k : ∀ b o, b ≠ a → h.get? b = some o → h'.get? b = some o) : Tin h' v ns := by
  obtain ⟨b, its, e, ⟨o, ho, hc, hd⟩, i⟩ := x
  exact ⟨b, its, e, ⟨o, k _ _ (fun z => na o (by rw [← z]; exact ho) hc) ho, hc, hd⟩, i⟩
theorem lt_tin {v u : Value} {ns ms : List Int} {Q : Bool → Shared → Prop} (hu : A.units < cLine) (hv : Tin s.heap v ns) (hw : Tin s.heap u ms) (q : Q (HT.lexLt ns ms) s) : wpAny (model prog w) A (keyLt' oneType' v u) Q E s := by
  obtain ⟨a, its, rfl, ⟨⟨c1, d1, t1, l1⟩, ga, hc, n, hd⟩, ia⟩ := hv
  obtain ⟨b, its2, rfl, ⟨⟨c2, d2, t2, l2⟩, gb, hc2, n2, hd2⟩, ib⟩ := hw
  simp only at hc hd hc2 hd2
  subst hc hd hc2 hd2
  rw [keyLt'_oneType, oneLt'_eq]
  simp only [if_true]
  refine wpAny_bind (wpAny_cRoomFor hu ?_)
  refine wpAny_bind (wpAny_callSpecialIfBound?_slot (T := "tuple") ⟨_, ga, rfl⟩ PySem.F.slot_tuple_lt (call_meets PySem.F.slot_tuple_lt ⟨_, ga, rfl⟩ PySem.F.entry_tuple_lt (PySem.F.args_tuple_lt_2 _ _) (HT.tuple_lt_ints a b its its2 n n2 d1 d2 l1 l2 ns ms ia ib) ⟨ga, gb, ?_⟩))
  exact wpAny_truthy_bool q
theorem firsts_tin : ∀ (vs : List Value) {Q : List (Option Value) → Shared → Prop}, (∀ v ∈ vs, ∃ ns, Tin s.heap v ns) → (∀ fs : List (Option Value), fs.length = vs.length → (∀ (i : Nat) (v : Value) (ns : List Int), vs[i]? = some v → Tin s.heap v ns → ns = [] → fs[i]? = some none) → Q fs s) → wpAny (model prog w) A (vs.mapM firstOfTuple') Q E s
  | [], Q, _, q => by
    rw [List.mapM_nil]
    exact wpAny_pure (q [] rfl fun i v ns h => by simp at h)
  | v :: vs, Q, h, q => by
    obtain ⟨ns, a, its, rfl, ⟨o, ho, hc, n, hd⟩, ii⟩ := h v List.mem_cons_self
    rw [List.mapM_cons]
    refine wpAny_bind ?_
    rw [PySem.W.kas_first_eq]
    refine wpAny_bind (PySem.W.Looks.here (show PySem.W.Looks (model prog w) s.heap (typeOf (.ref a)) o.cls from (PySem.W.Looks.ld ho).andThen .now) ?_)
    rw [hc, if_neg (by first | decide | simp)]
    refine wpAny_bind (listItems_at ho hd (wpAny_pure ?_))
    refine wpAny_bind (firsts_tin vs (fun u hu => h u (List.mem_cons_of_mem _ hu)) fun fs hl hf => wpAny_pure (q _ (by rw [List.length_cons, List.length_cons, hl]) fun i u ms hi hm e => ?_))
    cases i with
    | zero =>
      have e2 := Option.some.inj hi
      obtain ⟨a2, its2, e3, ⟨o2, ho2, hc2, n2, hd2⟩, ii2⟩ := hm
      rw [← e2] at e3
      cases e3
      rw [ho] at ho2
      cases ho2
      rw [hd] at hd2
      cases hd2
      subst e
      have z : its.toList = [] := by
        cases hh : its.toList with
        | nil => rfl
        | cons y ys =>
          rw [hh] at ii2
          cases ii2
      show some (its[0]?) = some none
      rw [← Array.getElem?_toList, z]
      rfl
    | succ i => exact hf i u ms hi hm e
theorem kind_tin {vs : List Value} {v0 : Value} {Q : SortKind → Shared → Prop} (h : ∀ v ∈ vs, ∃ ns, Tin s.heap v ns) (h0 : vs[0]? = some v0) (hv0 : Tin s.heap v0 []) (q : Q oneType' s) : wpAny (model prog w) A (keyKind' vs.toArray) Q E s := by
  rw [keyKind'_eq, List.mapM_toArray, map_eq_pure_bind]
  refine wpAny_bind (wpAny_bind (firsts_tin vs h fun fs hl hf => wpAny_pure ?_))
  have f0 := hf 0 v0 [] h0 hv0 rfl
  have n1 : ¬ (fs.toArray.all fun x => x.isSome) = true := fun z => by
    rw [List.all_toArray, List.all_eq_true] at z
    have := z none (List.mem_of_getElem? f0)
    cases this
  have e0 : fs.toArray[0]? = some none := by rw [List.getElem?_toArray]; exact f0
  rw [if_neg n1, e0]
  rw [if_neg (by decide)]
  rw [oneTypeOnly'_eq, List.mapM_toArray, map_eq_pure_bind]
  refine wpAny_bind (wpAny_bind (wpAny_bind (PySem.W.kas_mapM (r := Value.type "tuple") _ (fun v hv Q' hq => ?_) (wpAny_pure ?_))))
  · obtain ⟨ns, a, its, rfl, ⟨o, ho, hc, _⟩, _⟩ := h v hv
    exact ((PySem.W.Looks.ld ho).andThen (by rw [hc]; exact PySem.W.Looks.now)).here hq
  · have e1 : (vs.map fun _ => Value.type "tuple").toArray[0]? = some (Value.type "tuple") := by
      rw [List.getElem?_toArray, List.getElem?_map, h0]
      rfl
    have e2 : ((vs.map fun _ => Value.type "tuple").toArray.all fun x => x == Value.type "tuple") = true := by
      rw [List.all_toArray, List.all_map, List.all_eq_true]
      intro _ _
      rfl
    rw [e1]
    simp only [e2, if_true]
    exact wpAny_pure (wpAny_pure q)
end
/-- sorted(l), l a list of tuples of ints whose first is () -/
def rSortedTin (K : PySem.W.Frag) : List V → Hp → VK → Prop := fun vs H Q => ∃ (a : Addr) (xs : List V), vs = [V.ref a] ∧ SqL K H a xs ∧ (∀ x ∈ xs, ∃ (t : Addr) (ns : List Int), x = V.ref t ∧ SqT K H t (ns.map V.int)) ∧ (∃ t, xs[0]? = some (V.ref t) ∧ SqT K H t []) ∧
  ∀ ys p, ys.Perm xs → H p = none → Q (.ref p) (upd H p (.lst ys))
section
variable {X : Cx}
theorem cr_sortedTin (hu : X.A.units + 64 < cLine) : CallR X (.builtin "sorted") (rSortedTin X.K) := by
  intro pins z σ H vs us Q I r h
  obtain ⟨a, xs, rfl, hs, hx, ⟨t0, h0, ht0⟩, q⟩ := h
  obtain ⟨its, rv, hl, hz⟩ := I.list hs
  obtain ⟨u, rfl, ru⟩ := vals1 r
  obtain rfl : u = Value.ref a := ru
  obtain ⟨e1, e2⟩ := refs_back rv fun x m => by
    obtain ⟨t, _, e, _⟩ := hx x m
    exact ⟨t, e⟩
  have hv : ∀ v ∈ its, ∃ ns, Tin z.heap v ns := fun v m => by
    obtain ⟨t, rfl⟩ := e2 v m
    have hm : V.ref t ∈ xs := by rw [e1]; exact List.mem_map.mpr ⟨_, m, rfl⟩
    obtain ⟨t', ns, e, ht⟩ := hx _ hm
    cases e
    obtain ⟨its2, r2, p2, _⟩ := I.tuple ht
    exact ⟨ns, t, _, rfl, p2, intsAre_of r2⟩
  obtain ⟨v0, g0, rv0⟩ := rv.get h0
  cases rv0
  have hv0 : Tin z.heap (.ref t0) [] := by
    obtain ⟨its2, r2, p2, _⟩ := I.tuple ht0
    cases r2
    exact ⟨t0, _, rfl, p2, .nil⟩
  obtain ⟨k, hk⟩ : ∃ k : Value → List Int, ∀ v ∈ its, Tin z.heap v (k v) := by
    have : ∀ v : Value, ∃ ns : List Int, v ∈ its → Tin z.heap v ns := fun v => by
      by_cases m : v ∈ its
      · obtain ⟨ns, h⟩ := hv v m
        exact ⟨ns, fun _ => h⟩
      · exact ⟨[], fun z => absurd z m⟩
    exact ⟨fun v => Classical.choose (this v), fun v m => Classical.choose_spec (this v) m⟩
  refine SrtO.sorted_ord (NtL.swo_lexL k) hl.isList (by rw [← rv.length]; exact hz) (fun h2 h1 b hb kk => ?_) fun out h1 h2 => ?_
  · have nb : ∀ o, h1.get? b = some o → o.cls ≠ .type "tuple" := fun o e => by
      rw [hb] at e
      cases e
      intro c
      exact absurd (Value.type.inj c) (by decide)
    have up : ∀ v ns, Tin z.heap v ns → Tin h1 v ns := fun v ns x => by
      obtain ⟨c, its3, e, ⟨o, ho, hc, hd⟩, i⟩ := x
      exact ⟨c, its3, e, ⟨o, (kk _ _ ho).2, hc, hd⟩, i⟩
    intro h' keep
    have up2 : ∀ v ns, Tin z.heap v ns → Tin h' v ns := fun v ns x => (up v ns x).keep nb keep
    refine ⟨oneType', fun Q' E' hq => kind_tin (fun v m => ⟨_, up2 _ _ (hk v m)⟩) g0 (up2 _ _ hv0) hq, fun p q' hp hq' => ?_⟩
    exact lt_tin (by show X.A.in1.in1.units < cLine; simp; omega) (up2 _ _ (hk _ hp)) (up2 _ _ (hk _ hq')) ⟨rfl, rfl⟩
  · have h3 : ∀ u ∈ out, ∃ a, u = Value.ref a := fun u hu => e2 u (h2.perm.mem_iff.mp hu)
    obtain ⟨ep, he'⟩ := PyProof.Rows.sortedAll_at z.heap its out.toArray
    have hp : (out.map backV).Perm xs := by
      rw [e1]
      exact h2.perm.map backV
    refine ⟨.ref _, upd H (z.heap.objs.size + 1) (.lst (out.map backV)), I.laid (t' := z.toks) (fun _ _ => PyProof.Rows.sortedAll_old) (Nat.le_succ _) ⟨by rw [hp.length_eq]; exact hz, out, ep, vals_back h3, he'⟩, rfl, q _ _ hp (I.hok.fresh (Nat.le_succ _))⟩
end
/-! ### pairs of a string and an int -/
def ltSI (p q : Str × Int) : Bool := if p.1 = q.1 then decide (p.2 < q.2) else sLt p.1 q.1
theorem swo_SI {α : Type} (k : α → Str × Int) : SrtO.Swo fun v u : α => ltSI (k v) (k u) := by
  refine ⟨fun x y h => ?_, fun x y z h1 h2 => ?_⟩
  · unfold ltSI at h ⊢
    by_cases e : (k x).1 = (k y).1
    · rw [if_pos e] at h
      rw [if_pos e.symm]
      have := of_decide_eq_true h
      exact decide_eq_false (by omega)
    · rw [if_neg e] at h
      rw [if_neg (Ne.symm e)]
      exact sLt_asym h
  · unfold ltSI at h1 h2 ⊢
    by_cases e1 : (k y).1 = (k x).1
    · rw [if_pos e1] at h1
      by_cases e2 : (k z).1 = (k y).1
      · rw [if_pos e2] at h2
        rw [if_pos (e2.trans e1)]
        have a := of_decide_eq_false h1
        have b := of_decide_eq_false h2
        exact decide_eq_false (by omega)
      · rw [if_neg e2, e1] at h2
        rw [if_neg (by rw [← e1]; exact e2)]
        exact h2
    · rw [if_neg e1] at h1
      by_cases e2 : (k z).1 = (k y).1
      · rw [if_neg (by rw [e2]; exact e1), e2]
        exact h1
      · rw [if_neg e2] at h2
        have a : sLt (k x).1 (k y).1 = true := by
          cases h : sLt (k x).1 (k y).1
          · exact absurd (sLt_tri h1 h) e1
          · rfl
        have b : sLt (k y).1 (k z).1 = true := by
          cases h : sLt (k y).1 (k z).1
          · exact absurd (sLt_tri h2 h) e2
          · rfl
        have c := sLt_tr a b
        have n : ¬ (k z).1 = (k x).1 := fun e => by
          rw [e, sLt_irr] at c
          cases c
        rw [if_neg n]
        exact sLt_asym c
section
variable {prog : Program} {w : World} {A : Around} {E : Value → Shared → Prop} {s : Shared}
def Tsi (h : Heap) (v : Value) (p : Str × Int) : Prop := ∃ a o t u n, v = .ref a ∧ h.get? a = some o ∧ o.cls = .type "tuple" ∧ o.data = .seq #[.str p.1 t, .int p.2 u] n
theorem si_cmp {vs : List Value} {k : Value → Str × Int} (hp : ∀ v ∈ vs, Tsi s.heap v (k v)) : SrtO.Cmp prog w A s (tuples' true) (fun p => p.1 ∈ vs) (SrtO.lt2 fun v u => ltSI (k v) (k u)) := by
  intro p q hm hm'
  have h1 := hp _ hm
  have h2 := hp _ hm'
  show wpAny (model prog w) A (keyLt' (tuples' true) p.1 q.1) (fun r s' => s' = s ∧ r = ltSI (k p.1) (k q.1)) (fun _ _ => False) s
  generalize k p.1 = x at h1 ⊢
  generalize k q.1 = y at h2 ⊢
  obtain ⟨x1, x2⟩ := x
  obtain ⟨y1, y2⟩ := y
  obtain ⟨a, o, t, u, n, e, ho, hc, hd⟩ := h1
  obtain ⟨b, o', t', u', n', e', ho', hc', hd'⟩ := h2
  rw [e, e']
  refine PySem.W.kat_lt ho hd ho' hd' ?_
  show PySem.W.KatLex prog w A true (decide (2 < 2)) _ [(.str x1 t, .str y1 t'), (.int x2 u, .int y2 u')] 0 s
  refine PySem.W.kat_cons (wpAny_eqBool_str ?_)
  refine PySem.W.kat_go (fun e1 => ?_) (fun e1 => ?_)
  · have ex : x1 = y1 := of_decide_eq_true e1
    refine PySem.W.kat_yes (PySem.W.kat_cons (SeqAt.EqAt.int_int x2 u y2 u' prog w _ _ ?_))
    refine PySem.W.kat_go (fun e2 => ?_) (fun e2 => ?_)
    · have ey : x2 = y2 := by simpa using e2
      refine PySem.W.kat_yes (PySem.W.kat_nil ⟨rfl, ?_⟩)
      unfold ltSI
      rw [if_pos ex, ey]
      exact (decide_eq_false (Int.lt_irrefl _)).symm
    · refine PySem.W.kat_no (PySem.W.kat_one _ _ (PyProof.Rows.lt_int ?_))
      refine (show s = s ∧ decide (x2 < y2) = ltSI (x1, x2) (y1, y2) from ⟨rfl, ?_⟩)
      unfold ltSI
      rw [if_pos ex]
  · have ex : ¬ x1 = y1 := fun z => by
      rw [decide_eq_true z] at e1
      cases e1
    refine PySem.W.kat_no (oneLt_str ⟨rfl, ?_⟩)
    unfold ltSI
    rw [if_neg ex]
    exact lt_meets x1 y1
theorem si_firsts {h : Heap} {k : Value → Str × Int} : ∀ vs : List Value, (∀ v ∈ vs, Tsi h v (k v)) → ∃ fs, PySem.W.KatTups h vs fs ∧ fs.length = vs.length ∧ ∀ f ∈ fs, ∃ x t, f = Value.str x t
  | [], _ => ⟨[], PySem.W.KatTups.nil, rfl, fun f hf => by simp at hf⟩
  | v :: vs, hp => by
    obtain ⟨fs, k1, l1, h1⟩ := si_firsts vs fun u hu => hp u (List.mem_cons_of_mem _ hu)
    obtain ⟨a, o, t, u, n, rfl, ho, hc, hd⟩ := hp v List.mem_cons_self
    refine ⟨_ :: fs, PySem.W.KatTups.cons ho hc hd rfl k1, by rw [List.length_cons, List.length_cons, l1], fun f hf => ?_⟩
    rcases List.mem_cons.mp hf with rfl | hf
    · exact ⟨_, _, rfl⟩
    · exact h1 f hf
theorem si_sortable {a : Addr} {vs : List Value} {k : Value → Str × Int} (h0 : 0 < vs.length) (hp : ∀ v ∈ vs, Tsi s.heap v (k v)) (ha : ∀ o, s.heap.get? a = some o → o.cls ≠ .type "tuple") : SrtO.SortableO prog w A s a vs fun v u => ltSI (k v) (k u) := by
  intro h' keep
  have hp' : ∀ v ∈ vs, Tsi h' v (k v) := fun v hm => by
    obtain ⟨b, o, t, u, n, e, ho, hc, hd⟩ := hp v hm
    exact ⟨b, o, t, u, n, e, keep _ _ (fun z => ha o (by rw [← z]; exact ho) hc) ho, hc, hd⟩
  obtain ⟨fs, h1, h2, h3⟩ := si_firsts vs hp'
  refine ⟨tuples' true, fun Q E hq => ?_, si_cmp hp'⟩
  refine PySem.W.kat_kind (T := .type "str") h1 (by omega) (fun f hm => ?_) (by rfl) ?_
  · obtain ⟨x, t, rfl⟩ := h3 f hm
    exact PySem.W.Looks.now
  · have e : (Value.type "str" != Value.type "tuple") = true := by first | decide +kernel | rfl | decide
    rw [e]
    exact hq
end
/-- sorted(l), l a list of pairs of a string and an int -/
def rSortedSI (K : PySem.W.Frag) : List V → Hp → VK → Prop := fun vs H Q => ∃ (a : Addr) (xs : List V) (k : V → Str × Int), vs = [V.ref a] ∧ SqL K H a xs ∧ (∀ x ∈ xs, ∃ t, x = V.ref t ∧ SqT K H t [.str (k x).1, .int (k x).2]) ∧
  ∀ ys p, ys.Perm xs → ys.Pairwise (fun x y => ltSI (k y) (k x) = false) → H p = none → Q (.ref p) (upd H p (.lst ys))
theorem cr_sortedSI {X : Cx} : CallR X (.builtin "sorted") (rSortedSI X.K) := by
  intro pins z σ H vs us Q I r h
  obtain ⟨a, xs, k, rfl, hs, hx, q⟩ := h
  obtain ⟨its, rv, hl, hz⟩ := I.list hs
  obtain ⟨u, rfl, ru⟩ := vals1 r
  obtain rfl : u = Value.ref a := ru
  obtain ⟨e1, e2⟩ := refs_back rv fun x m => by
    obtain ⟨t, e, _⟩ := hx x m
    exact ⟨t, e⟩
  have hv : ∀ v ∈ its, Tsi z.heap v (k (backV v)) := fun v m => by
    obtain ⟨t, rfl⟩ := e2 v m
    have hm : V.ref t ∈ xs := by rw [e1]; exact List.mem_map.mpr ⟨_, m, rfl⟩
    obtain ⟨t', e, ht⟩ := hx _ hm
    cases e
    obtain ⟨its2, r2, ⟨o, ho, hc, n, hd⟩, _⟩ := I.tuple ht
    obtain ⟨u1, u2, rfl, ri, rj⟩ := vals2 r2
    obtain ⟨t1, rfl⟩ := ri
    obtain ⟨t2, rfl⟩ := rj
    exact ⟨t, o, t1, t2, n, rfl, ho, hc, hd⟩
  refine SrtO.sorted_ord (swo_SI fun u => k (backV u)) hl.isList (by rw [← rv.length]; exact hz) (fun h2 h1 b hb kk => si_sortable (by omega) (fun v m => ?_) fun o e => ?_) fun out h1 h2 => ?_
  · obtain ⟨c, o, t, u, n, e, ho, hc, hd⟩ := hv v m
    exact ⟨c, o, t, u, n, e, (kk _ _ ho).2, hc, hd⟩
  · have e' : some o = _ := e.symm.trans hb
    cases e'
    intro c
    exact absurd (Value.type.inj c) (by decide)
  · have h3 : ∀ u ∈ out, ∃ a, u = Value.ref a := fun u hu => e2 u (h2.perm.mem_iff.mp hu)
    obtain ⟨ep, he'⟩ := PyProof.Rows.sortedAll_at z.heap its out.toArray
    have hp : (out.map backV).Perm xs := by
      rw [e1]
      exact h2.perm.map backV
    have hsr : (out.map backV).Pairwise (fun x y => ltSI (k y) (k x) = false) := List.pairwise_map.mpr h1
    exact ⟨.ref _, upd H (z.heap.objs.size + 1) (.lst (out.map backV)), I.laid (t' := z.toks) (fun _ _ => PyProof.Rows.sortedAll_old) (Nat.le_succ _) ⟨by rw [hp.length_eq]; exact hz, out, ep, vals_back h3, he'⟩, rfl, q _ _ hp hsr (I.hok.fresh (Nat.le_succ _))⟩
end Sl

set_option Elab.async false
set_option linter.all false
set_option maxRecDepth 100000
set_option maxHeartbeats 400000
/-! ### list(zip(a, b)) of two lists of one length -/
namespace Sl
open PySem PySem.Spec PyProof.Rows L2
theorem zip_no_len : typeLookup (.type "zip") "__len__" = pure none := by rw [typeLookup_type, builtinLookup_eq_fast]; kernel_rfl
theorem zip_no_hint : typeLookup (.type "zip") "__length_hint__" = pure none := by rw [typeLookup_type, builtinLookup_eq_fast]; kernel_rfl
structure ZSt (h : Heap) (z TI TO i1 i2 l1 l2 S : Addr) (xs ys : Array Value) (i : Nat) : Prop where
  ti : IsPair h TI (.ref i1) (.ref i2)
  h1 : h.IsListIter i1 l1 i
  h2 : h.IsListIter i2 l2 i
  hl1 : h.IsList l1 xs
  hl2 : h.IsList l2 ys
  out : (IsZip h z TI TO .none ∧ ∃ a b, IsPair h TO a b) ∨ ∃ T f oT, IsZipHeld h z TI TO T f ∧ h.get? T = some oT ∧ T ≠ z ∧ T ≠ i1 ∧ T ≠ i2 ∧ T ≠ S
theorem ZSt.keep {h h' : Heap} {z TI TO i1 i2 l1 l2 S : Addr} {xs ys : Array Value} {i : Nat} (x : ZSt h z TI TO i1 i2 l1 l2 S xs ys i) (hk : ∀ b o, b ≠ S → h.get? b = some o → h'.get? b = some o)
    (n : ∀ b ∈ [z, TI, TO, i1, i2, l1, l2], b ≠ S) : ZSt h' z TI TO i1 i2 l1 l2 S xs ys i := by
  refine ⟨hk _ _ (n _ (by simp)) x.ti, x.h1.at fun o e => hk _ o (n _ (by simp)) e, x.h2.at fun o e => hk _ o (n _ (by simp)) e, x.hl1.at fun o e => hk _ o (n _ (by simp)) e, x.hl2.at fun o e => hk _ o (n _ (by simp)) e, ?_⟩
  rcases x.out with ⟨hz, a, b, hTO⟩ | ⟨T, f, oT, hz, hT, r1, r2, r3, r4⟩
  · exact .inl ⟨hk _ _ (n _ (by simp)) hz, a, b, hk _ _ (n _ (by simp)) hTO⟩
  · exact .inr ⟨T, f, oT, hk _ _ (n _ (by simp)) hz, hk _ _ r4 hT, r1, r2, r3, r4⟩
section
variable {prog : Program} {w : World} {A : Around} {E : Value → Shared → Prop} {s : Shared} {z TI TO i1 i2 l1 l2 S : Addr} {xs ys : Array Value}
theorem zl_item {i : Nat} {x y : Value} {Q : Option Value → Shared → Prop} (D : ZipApart z TI TO i1 i2 l1 l2) (st : ZSt s.heap z TI TO i1 i2 l1 l2 S xs ys i) (hS : S < s.heap.objs.size) (ex : xs[i]? = some x) (ey : ys[i]? = some y)
    (hQ : ∀ h', ZSt h' z TI TO i1 i2 l1 l2 S xs ys (i + 1) → IsPair h' s.heap.objs.size x y → (∀ c o, c ∉ [z, TO, i1, i2] → s.heap.get? c = some o → h'.get? c = some o) → Q (some (.ref s.heap.objs.size)) { s with heap := h' }) :
    wpAny (model prog w) A (pyNext (.ref z)) Q E s := by
  obtain ⟨hTI, h1, h2, hl1, hl2, hz⟩ := st
  have lt : ∀ {c o}, s.heap.get? c = some o → s.heap.objs.size ≠ c := fun e => Nat.ne_of_gt (Heap.lt_size e)
  have n1 : s.heap.objs.size ≠ i1 := let ⟨_, e, _⟩ := h1; lt e
  have n2 : s.heap.objs.size ≠ i2 := let ⟨_, e, _⟩ := h2; lt e
  rcases hz with ⟨hz, a, b, hTO⟩ | ⟨T, f, oT, hz, hT, r1, r2, r3, r4⟩
  · refine wpAny_pyNext_zip_item D hz hTI hTO h1 h2 hl1 hl2 ex ey fun h' a1 a2 a3 a4 a5 a6 hk => ?_
    exact hQ h' ⟨hk _ _ D.TIz D.TITO D.TIi1 D.TIi2 hTI, a3, a4, hl1.at fun o e => hk _ o D.l1z D.l1TO D.l1i1 D.l1i2 e, hl2.at fun o e => hk _ o D.l2z D.l2TO D.l2i1 D.l2i2 e,
      .inr ⟨s.heap.objs.size, false, _, a1, a5, lt hz, n1, n2, Nat.ne_of_gt hS⟩⟩ a5 fun c o hc e => hk c o (fun x => hc (by simp [x])) (fun x => hc (by simp [x])) (fun x => hc (by simp [x])) (fun x => hc (by simp [x])) e
  · refine wpAny_pyNext_zip_item_held D hz hT hTI h1 h2 hl1 hl2 ex ey fun h' a1 a3 a4 a5 a6 hk => ?_
    exact hQ h' ⟨hk _ _ D.TIz D.TIi1 D.TIi2 hTI, a3, a4, hl1.at fun o e => hk _ o D.l1z D.l1i1 D.l1i2 e, hl2.at fun o e => hk _ o D.l2z D.l2i1 D.l2i2 e,
      .inr ⟨T, true, oT, a1, hk _ _ r1 r2 r3 hT, r1, r2, r3, r4⟩⟩ a5 fun c o hc e => hk c o (fun x => hc (by simp [x])) (fun x => hc (by simp [x])) (fun x => hc (by simp [x])) e
theorem zl_done {i : Nat} {Q : Option Value → Shared → Prop} (hh : A.handled = none) (D : ZipApart z TI TO i1 i2 l1 l2) (st : ZSt s.heap z TI TO i1 i2 l1 l2 S xs ys i) (hend : xs[i]? = none)
    (hQ : ∀ h', (∀ c o, c ∉ [z, TO, i1, i2] → s.heap.get? c = some o → h'.get? c = some o) → Q none { s with heap := h' }) : wpAny (model prog w) A (pyNext (.ref z)) Q E s := by
  obtain ⟨hTI, h1, h2, hl1, hl2, hz⟩ := st
  rcases hz with ⟨hz, a, b, hTO⟩ | ⟨T, f, oT, hz, hT, r1, r2, r3, r4⟩
  · exact wpAny_pyNext_zip_end hh D hz hTI hTO h1 h2 hl1 hl2 (.inl hend) fun h' hk => hQ h' fun c o hc e => hk c o (fun x => hc (by simp [x])) (fun x => hc (by simp [x])) (fun x => hc (by simp [x])) (fun x => hc (by simp [x])) e
  · exact wpAny_pyNext_zip_end_held hh D hz hT hTI h1 h2 hl1 hl2 (.inl hend) fun h' hk => hQ h' fun c o hc e => hk c o (fun x => hc (by simp [x])) (fun x => hc (by simp [x])) (fun x => hc (by simp [x])) e
end
structure ZG (xs ys : Array Value) (lo : Addr) (h : Heap) (as : List Addr) : Prop where
  rise : as.Pairwise (· < ·)
  above : ∀ a ∈ as, lo < a
  pairs : ∀ (j : Nat) (a : Addr), as[j]? = some a → ∃ x y, xs[j]? = some x ∧ ys[j]? = some y ∧ IsPair h a x y
theorem ZG.there {xs ys : Array Value} {lo : Addr} {h : Heap} {as : List Addr} (g : ZG xs ys lo h as) {a : Addr} (ha : a ∈ as) : a < h.objs.size := by
  obtain ⟨j, hj⟩ := List.mem_iff_getElem?.mp ha
  obtain ⟨_, _, _, _, e⟩ := g.pairs j a hj
  exact Heap.lt_size e
section
variable {prog : Program} {w : World} {A : Around} {s : Shared} {R : Result → Shared → Prop} {z TI TO i1 i2 l1 l2 S : Addr} {xs ys : Array Value}
theorem zl_loop (hh : A.handled = none) (D : ZipApart z TI TO i1 i2 l1 l2) (lo : ∀ b ∈ [z, TI, TO, i1, i2, l1, l2], b < S) (hl : xs.size = ys.size) (hn : xs.size ≤ sizeLine) (res : Value) {h₁ : Heap}
    (hR : ∀ h' tk acc c as, (∀ b o, b ≠ S → b ∉ [z, TO, i1, i2] → h₁.get? b = some o → h'.get? b = some o) → h'.get? S = some { cls := .type "list", dict := none, data := .seq acc c, slots := #[] } → as.length = xs.size → ZG xs ys S h' as →
      acc.toList = as.map Value.ref → R (.ok (.ret res)) { s with heap := h', toks := tk }) :
    ∀ (k i : Nat) (h : Heap) (tk c : Nat) (acc : Array Value) (as : List Addr), xs.size - i = k → i ≤ xs.size → ZSt h z TI TO i1 i2 l1 l2 S xs ys i → (∀ b o, b ≠ S → b ∉ [z, TO, i1, i2] → h₁.get? b = some o → h.get? b = some o) →
      h.get? S = some { cls := .type "list", dict := none, data := .seq acc c, slots := #[] } → acc.toList = as.map Value.ref → as.length = i → ZG xs ys S h as →
      codeAny (model prog w) A (.builtin "list.extend.loop" ⟨[.ref S, .ref z, res], []⟩) R { s with heap := h, toks := tk } := by
  have wl : ∀ b ∈ [z, TO, i1, i2], b < S := fun b hb => lo b (by simp at hb ⊢; rcases hb with rfl | rfl | rfl | rfl <;> simp)
  have hSw : S ∉ [z, TO, i1, i2] := fun hm => Nat.lt_irrefl _ (wl _ hm)
  have up0 : ∀ {a : Addr}, S < a → a ∉ [z, TO, i1, i2] := fun h hm => Nat.lt_asymm h (wl _ hm)
  intro k
  induction k with
  | zero =>
    intro i h tk c acc as hk hi hst hkeep hS hacc hal hG
    have hin : i = xs.size := by omega
    refine codeAny_builtin PySem.F.entry_extend_loop ?_
    rw [Around.under_plainId PySem.F.plain_extend_loop _]
    show wpAny _ A.in1 (pyNext (.ref z) >>= _) _ _ _
    refine wpAny_bind (zl_done (s := { s with heap := h, toks := tk }) (A := A.in1) hh D hst (Array.getElem?_eq_none (by omega)) fun h' he => ?_)
    refine wpAny_pure (hR h' tk acc c as (fun b o h1 h2 e => he b o h2 (hkeep b o h1 h2 e)) (he S _ hSw hS) (by omega) ⟨hG.rise, hG.above, fun j a hj => ?_⟩ hacc)
    obtain ⟨x, y, e1, e2, e3⟩ := hG.pairs j a hj
    exact ⟨x, y, e1, e2, he a _ (up0 (hG.above a (List.mem_of_getElem? hj))) e3⟩
  | succ k ih =>
    intro i h tk c acc as hk hi hst hkeep hS hacc hal hG
    have hlt : i < xs.size := by omega
    have ex := Array.getElem?_eq_getElem hlt
    have ey := Array.getElem?_eq_getElem (show i < ys.size by omega)
    have hsz : acc.size = i := by rw [← Array.length_toList, hacc, List.length_map, hal]
    refine codeAny_builtin PySem.F.entry_extend_loop ?_
    rw [Around.under_plainId PySem.F.plain_extend_loop _]
    show wpAny _ A.in1 (pyNext (.ref z) >>= _) _ _ _
    refine wpAny_bind (zl_item (s := { s with heap := h, toks := tk }) (S := S) D hst (Heap.lt_size hS) ex ey fun h' hst' ht hkp => ?_)
    dsimp only at ht hkp ⊢
    have hS' := hkp S _ hSw hS
    have up : ∀ b o, b ≠ S → h'.get? b = some o → (h'.update S (Obj.mapSeq (·.push (Value.ref h.objs.size)))).get? b = some o := fun b o hb e => (Heap.get?_update_other _ _ (Ne.symm hb)).trans e
    have hSl : S < h.objs.size := Heap.lt_size hS
    show wpAny _ A.in1 (updateSeq S (·.push (Value.ref h.objs.size)) >>= _) _ _ _
    refine wpAny_bind ?_
    refine wpAny_updateSeq hS' rfl (wpAny_pure ⟨plainId_quiet PySem.F.plain_extend_loop _, ih (i + 1) _ tk _ (acc.push (Value.ref h.objs.size)) (as ++ [h.objs.size]) (by omega) hlt (hst'.keep up fun b hb => Nat.ne_of_lt (lo b hb))
      (fun b o h1 h2 e => up b o h1 (hkp b o h2 (hkeep b o h1 h2 e))) (Heap.get?_update_self _ hS' rfl) (by rw [Array.toList_push, hacc, List.map_append]; rfl) (by rw [List.length_append, hal]; rfl) ⟨?_, ?_, ?_⟩⟩) (by rw [hsz]; omega) (by show (acc.push (Value.ref h.objs.size)).size ≤ sizeLine + 1; rw [Array.size_push, hsz]; omega)
    · refine List.pairwise_append.mpr ⟨hG.rise, List.pairwise_singleton _ _, fun a ha b hb => ?_⟩
      rw [List.mem_singleton.mp hb]
      exact hG.there ha
    · intro a ha
      rcases List.mem_append.mp ha with ha | ha
      · exact hG.above a ha
      · rw [List.mem_singleton.mp ha]; exact hSl
    · intro j b hj
      rcases Nat.lt_trichotomy j as.length with h1 | h1 | h1
      · rw [List.getElem?_append_left h1] at hj
        obtain ⟨x', y', e1, e2, e3⟩ := hG.pairs j b hj
        have hb := hG.above b (List.mem_of_getElem? hj)
        exact ⟨x', y', e1, e2, up b _ (Nat.ne_of_gt hb) (hkp b _ (up0 hb) e3)⟩
      · subst h1
        have hb : h.objs.size = b := by simpa using hj
        subst hb
        exact ⟨_, _, by rw [hal]; exact ex, by rw [hal]; exact ey, up _ _ (Nat.ne_of_gt hSl) ht⟩
      · have hnone : (as ++ [h.objs.size])[j]? = none := List.getElem?_eq_none (by rw [List.length_append, List.length_singleton]; omega)
        rw [hnone] at hj; cases hj
theorem zl_extend (hh : A.handled = none) (D : ZipApart z TI TO i1 i2 l1 l2) (st : ZSt s.heap z TI TO i1 i2 l1 l2 S xs ys 0) (hz : IsZip s.heap z TI TO .none) (lo : ∀ b ∈ [z, TI, TO, i1, i2, l1, l2], b < S) (hl : xs.size = ys.size) (hn : xs.size ≤ sizeLine) (res : Value) (c₀ : Nat) (hS : s.heap.get? S = some { cls := .type "list", data := .seq #[] c₀ })
    (hR : ∀ h' tk acc c as, (∀ b o, b ≠ S → b ∉ [z, TO, i1, i2] → s.heap.get? b = some o → h'.get? b = some o) → h'.get? S = some { cls := .type "list", dict := none, data := .seq acc c, slots := #[] } → as.length = xs.size → ZG xs ys S h' as →
      acc.toList = as.map Value.ref → R (.ok (.ret res)) { s with heap := h', toks := tk }) :
    wpAny (model prog w) A.in1 (Builtin.List.listExtendWith (.ref S) (.ref z) res)
      (fun fin s' => match fin with | .done f => R (.ok f) s' | .again c' => c'.quiet = true ∧ codeAny (model prog w) A c' R s') (fun e s' => R (.error e) s') s := by
  have hSz : S ≠ z := Nat.ne_of_gt (lo z (by simp))
  have hT : s.TypeIs (.ref z) "zip" := ⟨_, hz, rfl⟩
  unfold Builtin.List.listExtendWith
  refine wpAny_bind (wpAny_typeOf hT ?_)
  have h1 : Builtin.List.listSameRef (.ref S) (.ref z) = false := by simp [Builtin.List.listSameRef, hSz]
  have h2 : (Value.type "zip" == Value.type "list") = false := by decide
  have h3 : (Value.type "zip" == Value.type "tuple") = false := by decide
  simp only [h1, h2, h3, Bool.or_false, Bool.false_eq_true, if_false]
  refine wpAny_bind (wpAny_pyIter_zip hz ?_)
  refine wpAny_bind (wpAny_holding ?_)
  unfold Builtin.List.listLengthHint
  refine wpAny_bind (wpAny_specialOf hT zip_no_len ?_)
  show wpAny _ A.in1 (specialOf (Value.ref z) (Str.ofString "__length_hint__") >>= _) _ _ _
  refine wpAny_bind (wpAny_specialOf hT zip_no_hint ?_)
  refine wpAny_pure ?_
  show wpAny _ A.in1 (rule "list.extend.makes-room" >>= fun _ => Builtin.List.listTouch (.ref S) >>= fun _ =>
    again (.builtin "list.extend.loop" ⟨[.ref S, .ref z, res], []⟩)) _ _ _
  refine wpAny_bind (wpAny_rule ?_)
  refine wpAny_bind ?_
  show wpAny _ A.in1 (updateSeq S (·.push .none) >>= fun _ => updateSeq S (·.pop)) _ _ _
  refine wpAny_bind (wpAny_updateSeq hS rfl ?_)
  have hS₂ := Heap.get?_update_self (Obj.mapSeq (·.push Value.none)) hS rfl
  refine wpAny_updateSeq (hz := by seq_fits) hS₂ rfl ?_
  have hS₃ := Heap.get?_update_self (Obj.mapSeq (·.pop)) hS₂ rfl
  have oth : ∀ b o, b ≠ S → s.heap.get? b = some o → ((s.heap.update S (Obj.mapSeq (·.push Value.none))).update S (Obj.mapSeq (·.pop))).get? b = some o :=
    fun b o hb e => (Heap.get?_update_other _ _ (Ne.symm hb)).trans ((Heap.get?_update_other _ _ (Ne.symm hb)).trans e)
  refine wpAny_pure ⟨plainId_quiet PySem.F.plain_extend_loop _, ?_⟩
  refine zl_loop (s := s) (h₁ := s.heap) hh D lo hl hn res hR xs.size 0 _ _ _ #[] [] (Nat.sub_zero _) (Nat.zero_le _) (st.keep oth fun b hb => Nat.ne_of_lt (lo b hb)) (fun b o hb _ e => oth b o hb e) hS₃ rfl rfl ⟨List.Pairwise.nil, (fun _ ha => nomatch ha), (fun j a hj => by simp at hj)⟩
theorem zl_init (hh : A.handled = none) (D : ZipApart z TI TO i1 i2 l1 l2) (st : ZSt s.heap z TI TO i1 i2 l1 l2 S xs ys 0) (hz : IsZip s.heap z TI TO .none) (lo : ∀ b ∈ [z, TI, TO, i1, i2, l1, l2], b < S) (hl : xs.size = ys.size) (hn : xs.size ≤ sizeLine) (hS : s.heap.get? S = some { cls := .type "list", data := .seq #[] })
    (hR : ∀ h' tk acc c as, (∀ b o, b ≠ S → b ∉ [z, TO, i1, i2] → s.heap.get? b = some o → h'.get? b = some o) → h'.get? S = some { cls := .type "list", dict := none, data := .seq acc c, slots := #[] } → as.length = xs.size → ZG xs ys S h' as →
      acc.toList = as.map Value.ref → R (.ok (.ret .none)) { s with heap := h', toks := tk }) :
    wpAny (model prog w) A.in1 (Builtin.«list.__init__» ⟨[.ref S, .ref z], []⟩)
      (fun fin s' => match fin with | .done f => R (.ok f) s' | .again c' => c'.quiet = true ∧ codeAny (model prog w) A c' R s') (fun e s' => R (.error e) s') s := by
  show wpAny _ _ (do let old ← Builtin.List.listItems (.ref S); Builtin.List.listUpdate (.ref S) (fun _ => #[]); letGo old.toList.reverse; Builtin.List.listExtendWith (.ref S) (.ref z) .none) _ _ s
  refine wpAny_bind ?_
  unfold Builtin.List.listItems
  refine wpAny_bind (wpAny_seqItems hS rfl (wpAny_pure ?_))
  show wpAny _ _ (updateSeq S (fun _ => #[]) >>= fun _ => letGo (#[] : Array Value).toList.reverse >>= fun _ => Builtin.List.listExtendWith (.ref S) (.ref z) .none) _ _ s
  refine wpAny_bind (wpAny_updateSeq hS rfl ?_)
  have hS₂ := Heap.get?_update_self (Obj.mapSeq (fun _ => (#[] : Array Value))) hS rfl
  have oth : ∀ b o, b ≠ S → s.heap.get? b = some o → (s.heap.update S (Obj.mapSeq (fun _ => (#[] : Array Value)))).get? b = some o :=
    fun b o hb e => (Heap.get?_update_other _ _ (Ne.symm hb)).trans e
  refine wpAny_bind (wpAny_letGo ?_)
  refine zl_extend hh D (st.keep oth fun b hb => Nat.ne_of_lt (lo b hb)) (oth _ _ (Nat.ne_of_lt (lo z (by simp))) hz) lo hl hn .none _ hS₂ fun h' tk acc c as hk hS' hal hG hacc => ?_
  exact hR h' tk acc c as (fun b o hb hw e => hk b o hb hw (oth b o hb e)) hS' hal hG hacc
theorem zl_call {Q : Value → Shared → Prop} {E : Value → Shared → Prop} (hh : A.handled = none) (D : ZipApart z TI TO i1 i2 l1 l2) (st : ∀ S, s.heap.get? S = none → ZSt s.heap z TI TO i1 i2 l1 l2 S xs ys 0) (hz : IsZip s.heap z TI TO .none) (lo : ∀ b ∈ [z, TI, TO, i1, i2, l1, l2], b < s.heap.objs.size) (hl : xs.size = ys.size) (hn : xs.size ≤ sizeLine)
    (hQ : ∀ h' tk acc c as, (∀ b o, b ∉ [z, TO, i1, i2] → s.heap.get? b = some o → h'.get? b = some o) → h'.get? s.heap.objs.size = some { cls := .type "list", dict := none, data := .seq acc c, slots := #[] } → as.length = xs.size → ZG xs ys s.heap.objs.size h' as →
      acc.toList = as.map Value.ref → Q (.ref s.heap.objs.size) { s with heap := h', toks := tk }) :
    wpAny (model prog w) A (call (.type "list") [.ref z]) Q E s := by
  refine callType_codes (Q₁ := fun obj s₁ => obj = .ref s.heap.objs.size ∧ s₁ = { s with heap := s.heap.push { cls := .type "list", data := .seq #[] } }) PySem.F.called_list (PySem.F.typeCall_list_1 _) PySem.F.entry_list_init
    (code_list_new _ ⟨rfl, rfl⟩) fun obj s₁ h₁ => ?_
  obtain ⟨rfl, rfl⟩ := h₁
  have hS : (s.heap.push { cls := .type "list", data := .seq #[] }).get? s.heap.objs.size = some { cls := .type "list", data := .seq #[] } := Heap.get?_push_size _ rfl
  have up : ∀ b o, s.heap.get? b = some o → (s.heap.push { cls := .type "list", data := .seq #[] }).get? b = some o := fun b o e => Heap.get?_push_of_some _ e
  have no : s.heap.get? s.heap.objs.size = none := by
    cases e : s.heap.get? s.heap.objs.size with
    | none => rfl
    | some o => exact absurd (Heap.lt_size e) (Nat.lt_irrefl _)
  refine ⟨⟨_, hS, rfl⟩, PySem.F.args_list_init_2 _ _, zl_init (A := A.in1) hh D ((st _ no).keep (fun b o _ e => up b o e) fun b hb => Nat.ne_of_lt (lo b hb)) (up _ _ hz) lo hl hn hS fun h' tk acc c as hk hS' hal hG hacc => ?_⟩
  exact ⟨rfl, hQ h' tk acc c as (fun b o hw e => hk b o (Nat.ne_of_lt (Heap.lt_size e)) hw (up _ _ e)) hS' hal hG hacc⟩
end
end Sl

set_option Elab.async false
set_option linter.all false
set_option maxRecDepth 100000
set_option maxHeartbeats 400000
namespace Sl
open PySem PySem.Spec PyProof.Rows L2
/-- the pairs tracked at their addresses -/
def putP : Hp → List Addr → List (V × V) → Hp
  | H, a :: as, p :: ps => putP (upd H a (.tup [p.1, p.2])) as ps
  | H, _, _ => H
theorem putP_off {b : Addr} : ∀ (as : List Addr) (ps : List (V × V)) (H : Hp), b ∉ as → putP H as ps b = H b
  | [], _, _, _ => rfl
  | _ :: _, [], _, _ => rfl
  | a :: as, p :: ps, H, h => by
    show putP (upd H a (.tup [p.1, p.2])) as ps b = H b
    rw [putP_off as ps _ (fun z => h (List.mem_cons_of_mem _ z)), upd_ne (fun z => h (by rw [z]; exact List.mem_cons_self))]
theorem putP_at : ∀ (as : List Addr) (ps : List (V × V)) (H : Hp), as.length = ps.length → as.Nodup → ∀ (j : Nat) (t : Addr) (p : V × V), as[j]? = some t → ps[j]? = some p → putP H as ps t = some (.tup [p.1, p.2])
  | [], _, _, _, _, j, t, p, e, _ => by simp at e
  | _ :: _, [], _, h, _, _, _, _, _, _ => by cases h
  | a :: as, q :: ps, H, h, hn, 0, t, p, e, e' => by
    cases e
    cases e'
    have hn' := List.nodup_cons.mp hn
    show putP (upd H a (.tup [q.1, q.2])) as ps a = some (.tup [q.1, q.2])
    rw [putP_off as ps _ hn'.1, upd_same]
  | a :: as, q :: ps, H, h, hn, j + 1, t, p, e, e' => putP_at as ps (upd H a (.tup [q.1, q.2])) (Nat.succ.inj h) (List.nodup_cons.mp hn).2 j t p e e'
def ZipTo (H H' : Hp) (p : Addr) (ts : List Addr) (xs ys : List V) : Prop :=
  (∀ b o, H b = some o → H' b = some o) ∧ H p = none ∧ (∀ t ∈ ts, H t = none) ∧ p ∉ ts ∧ H' p = some (.lst (ts.map V.ref)) ∧ ts.length = xs.length ∧
    ∀ (j : Nat) (t : Addr) (x y : V), ts[j]? = some t → xs[j]? = some x → ys[j]? = some y → H' t = some (.tup [x, y])
def tListZip (K : PySem.W.Frag) (ta : TA) : TE := fun σ H Q => ta σ H fun vs H1 => ∃ a b xs ys, vs = [.ref a, .ref b] ∧ SqL K H1 a xs ∧ SqL K H1 b ys ∧ xs.length = ys.length ∧
  ∀ H' p ts, ZipTo H1 H' p ts xs ys → Q (.ref p) H'
theorem offZ {n b : Addr} (h : b < n) (hm : b ∈ [n + 4, n + 3, n, n + 1]) : False := by
  simp only [List.mem_cons, List.not_mem_nil, or_false] at hm
  rcases hm with rfl | rfl | rfl | rfl
  · exact Nat.lt_irrefl _ (Nat.lt_of_le_of_lt (Nat.le_add_right n 4) h)
  · exact Nat.lt_irrefl _ (Nat.lt_of_le_of_lt (Nat.le_add_right n 3) h)
  · exact Nat.lt_irrefl _ h
  · exact Nat.lt_irrefl _ (Nat.lt_of_le_of_lt (Nat.le_add_right n 1) h)
section
variable {X : Cx} {e e2 : Expr} {ta : TA} {p p2 cpos pos : Pos}
theorem zip_laid {pins : List (Addr × Obj)} {σ : L2.St} {H : Hp} {s : Shared} {h' : Heap} {tk : Nat} {xs ys : List V} {us vs : List Value} {acc : Array Value} {c : Nat} {as : List Addr} {S : Addr} (I : Inv X pins σ H s) (rx : Vals xs us) (ry : Vals ys vs) (he : xs.length = ys.length) (hz : xs.length ≤ sizeLine)
    (hS0 : s.heap.objs.size ≤ S) (hk : ∀ b o, s.heap.get? b = some o → h'.get? b = some o) (hS : h'.get? S = some { cls := .type "list", dict := none, data := .seq acc c, slots := #[] }) (hl : as.length = us.toArray.size) (hG : ZG us.toArray vs.toArray S h' as) (hacc : acc.toList = as.map Value.ref) :
    ∃ H' : Hp, ZipTo H H' S as xs ys ∧ Inv X pins σ H' { s with heap := h', toks := tk } := by
  have lx := rx.length
  have ly := ry.length
  have hla : as.length = xs.length := by rw [hl, List.size_toArray]; omega
  have lz : (xs.zip ys).length = as.length := by rw [List.length_zip]; omega
  have hSn : S ∉ as := fun z => Nat.lt_irrefl _ (hG.above _ z)
  have nd : as.Nodup := List.Pairwise.imp (fun {a b} (h : a < b) => Nat.ne_of_lt h) hG.rise
  have new : ∀ t ∈ as, H t = none := fun t ht => I.hok.fresh (Nat.le_trans hS0 (Nat.le_of_lt (hG.above t ht)))
  have newS : H S = none := I.hok.fresh hS0
  have atP := putP_at as (xs.zip ys) (upd H S (.lst (as.map V.ref))) lz.symm nd
  have off : ∀ b, b ∉ as → b ≠ S → putP (upd H S (.lst (as.map V.ref))) as (xs.zip ys) b = H b := fun b h1 h2 => by rw [putP_off as _ _ h1, upd_ne h2]
  have low : ∀ b o, s.heap.get? b = some o → b ∉ as ∧ b ≠ S := fun b o e => by
    have hb : b < S := Nat.lt_of_lt_of_le (Heap.lt_size e) hS0
    exact ⟨fun z => absurd (hG.above b z) (Nat.lt_asymm hb), Nat.ne_of_lt hb⟩
  have kp : ∀ b u, H b = some u → (putP (upd H S (.lst (as.map V.ref))) as (xs.zip ys)) b = some u := fun b u e => by
    rw [off b (fun z => by rw [new b z] at e; cases e) (fun z => by rw [z, newS] at e; cases e)]
    exact e
  have eS : putP (upd H S (.lst (as.map V.ref))) as (xs.zip ys) S = some (.lst (as.map V.ref)) := by rw [putP_off as _ _ hSn, upd_same]
  have atZ : ∀ (j : Nat) (t : Addr) (x y : V), as[j]? = some t → xs[j]? = some x → ys[j]? = some y → putP (upd H S (.lst (as.map V.ref))) as (xs.zip ys) t = some (.tup [x, y]) := fun j t x y e1 e2 e3 =>
    atP j t (x, y) e1 (by rw [List.getElem?_zip_eq_some]; exact ⟨e2, e3⟩)
  refine ⟨putP (upd H S (.lst (as.map V.ref))) as (xs.zip ys), ⟨kp, newS, new, hSn, eS, hla, atZ⟩, ?_⟩
  refine I.call' (ch := []) rfl ⟨fun b o q _ _ _ => hk b o q, fun b o q _ _ _ => ⟨o.slots, hk b o q⟩, fun b o q n _ => ?_, fun b o q _ => ⟨o, hk b o q⟩, fun b xs q => kp b _ q, fun b o u q => kp b _ q, fun b ps q => ⟨#[], by rw [kp b _ q]; simp⟩⟩ (fun b u q => ?_) I.bare fun b z => by simp at z
  · obtain ⟨z1, z2⟩ := low b o q
    rw [off b z1 z2]
    exact n
  · by_cases hb : b ∈ as
    · obtain ⟨j, hj⟩ := List.mem_iff_getElem?.mp hb
      have hjl : j < as.length := (List.getElem?_eq_some_iff.mp hj).1
      have ex := List.getElem?_eq_getElem (l := xs) (i := j) (by omega)
      have ey := List.getElem?_eq_getElem (l := ys) (i := j) (by omega)
      rw [atZ j b _ _ hj ex ey] at q
      cases q
      obtain ⟨u, v, f1, f2, f3⟩ := hG.pairs j b hj
      obtain ⟨u', g1, g2⟩ := rx.get ex
      obtain ⟨v', g3, g4⟩ := ry.get ey
      have hu : us[j]? = some u := by simpa using f1
      have hv : vs[j]? = some v := by simpa using f2
      rw [hu] at g1
      rw [hv] at g3
      cases g1
      cases g3
      exact ⟨by show 2 ≤ sizeLine; decide, [u, v], .cons g2 (.cons g4 .nil), ⟨_, f3, rfl, _, rfl⟩⟩
    · by_cases hb2 : b = S
      · rw [hb2] at q ⊢
        rw [eS] at q
        cases q
        refine ⟨by rw [List.length_map]; omega, acc.toList, c, by rw [hacc]; exact LiI.vals_refs as, ?_⟩
        rw [Array.toArray_toList]
        exact hS
      · rw [off b hb hb2] at q
        exact (I.hok b u q).stay (fun d v _ y => hk d v y) (fun d y => kp d _ y) fun d xs y => kp d _ y
/-- list(zip(a, b)) -/
theorem pe_listZip (hc : X.calm = true) (ha : PA X [e, e2] ta) (hg : Gl X "list") (hm : X.mg "list" = none) (hv : bootBuiltins "list" = some (.type "list")) (hgz : Gl X "zip") (hmz : X.mg "zip" = none)
    (hs : starEach [.Call (.Name "zip" p2) [e, e2] [] cpos] X.env = (false, eval (.Call (.Name "zip" p2) [e, e2] [] cpos) X.env) :: starEach [] X.env := by rfl)
    (hs2 : starEach [e, e2] X.env = (false, eval e X.env) :: starEach [e2] X.env := by rfl) (hpl : (backTo cpos (starEach [e2] X.env)).any (·.1) = false := by rfl) :
    PE X (.Call (.Name "list" p) [.Call (.Name "zip" p2) [e, e2] [] cpos] [] pos) (tListZip X.K ta) := by
  refine ⟨fun pins s σ H Q I h => ?_⟩
  refine wpAny_Call_Name_kw (ld_blt I hg hm hv ?_)
  refine PyProof.Rows.callWith_type1 ?_ hs rfl
  rw [hs]
  show wpAny _ _ (spliced ((false, eval (.Call (.Name "zip" p2) [e, e2] [] cpos) X.env) :: backTo pos (starEach [] X.env))) _ _ s
  refine Calls.spliced_cons ?_
  refine Call_ (ld_blt I hgz hmz PyProof.Rows.boot_zip (PyProof.Rows.callWith_type1 (thn (ha.run cpos pins s σ H _ I h) fun us s1 ⟨vs, H1, I1, r1, q1⟩ => ?_) hs2 hpl))
  obtain ⟨a, b, xs, ys, ex, hqx, hqy, hle, q⟩ := q1
  subst ex
  cases r1 with
  | cons r rr =>
    cases rr with
    | cons r' rr =>
      cases rr
      cases r
      cases r'
      obtain ⟨its, rv, pl1, hsz⟩ := I1.list hqx
      obtain ⟨its2, rv2, pl2, _⟩ := I1.list hqy
      have la : a < s1.heap.objs.size := pl1.lt
      have lb : b < s1.heap.objs.size := pl2.lt
      have lx := rv.length
      have ly := rv2.length
      refine call_zip_2 pl1.isList pl2.isList fun h' hz hTI hTO h1 h2 hsz5 hk => ?_
      refine Calls.spliced_nil ?_
      have D := PySem.W.ktu_apart s1.heap.objs.size a b la lb
      refine zl_call (s := { s1 with heap := h' }) (I1.ok.hd hc) D (fun S _ => ⟨hTI, h1, h2, pl1.isList.at fun o e => hk _ o e, pl2.isList.at fun o e => hk _ o e, .inl ⟨hz, _, _, hTO⟩⟩) hz (fun c hcm => ?_) (by rw [List.size_toArray, List.size_toArray]; omega) (by rw [List.size_toArray]; omega) fun h2' tk acc c as hk2 hS hal hG hacc => ?_
      · show c < h'.objs.size
        have la' : (a : Nat) < s1.heap.objs.size := la
        have lb' : (b : Nat) < s1.heap.objs.size := lb
        rw [hsz5]
        simp only [List.mem_cons, List.not_mem_nil, or_false] at hcm
        show (c : Nat) < _
        rcases hcm with rfl | rfl | rfl | rfl | rfl | rfl | rfl <;> first | exact Nat.add_lt_add_left (by decide) _ | exact Nat.lt_add_of_pos_right (by decide) | exact Nat.lt_of_lt_of_le la (Nat.le_add_right _ _) | exact Nat.lt_of_lt_of_le lb (Nat.le_add_right _ _)
      · obtain ⟨H', zt, J⟩ := zip_laid (h' := h2') (tk := tk) I1 rv rv2 hle (by omega) (S := h'.objs.size) (by rw [hsz5]; omega) (fun b o e => hk2 b o (fun hm => offZ (Heap.lt_size e) hm) (hk b o e)) hS hal hG hacc
        exact ⟨.ref _, H', J, rfl, q H' _ as zt⟩
end
end Sl

set_option Elab.async false
set_option linter.all false
set_option maxRecDepth 100000
set_option maxHeartbeats 400000
namespace Sl
open PySem PySem.Spec PyProof.Rows L2
abbrev sPaths : Stmt := topT 37
theorem scPaths : FnScope ["_law_root", "_law_found", "_law_waits", "_law_path", "_law_spot"] ["_law_root"] (defScope sPaths) := ⟨rfl, rfl, rfl, by decide +kernel, rfl, by decide +kernel, by decide +kernel⟩
/-- a path as a value -/
def pd (p : List Nat) : D := .tup (p.map fun i => D.int (i : Nat))
theorem ints_of {K : PySem.W.Frag} {H : Hp} : ∀ {vs : List V} {p : List Nat}, RddAll K H vs (p.map fun i => D.int (i : Nat)) → vs = p.map fun i => V.int (i : Nat)
  | _, [], h => by
    cases h
    rfl
  | _, x :: xs, h => by
    cases h with
    | cons h1 h2 =>
      cases h1
      rw [ints_of h2]
      rfl
theorem of_ints {K : PySem.W.Frag} {H : Hp} : ∀ p : List Nat, RddAll K H (p.map fun i => V.int (i : Nat)) (p.map fun i => D.int (i : Nat))
  | [] => .nil
  | i :: p => .cons (.int _) (of_ints p)
theorem pd_tup {K : PySem.W.Frag} {H : Hp} {v : V} {p : List Nat} (h : Rdd K H v (pd p)) : ∃ t, v = .ref t ∧ SqT K H t (p.map fun i => V.int (i : Nat)) := by
  obtain ⟨t, us, rfl, ht, hu, _⟩ := h.tupd'
  rw [ints_of hu] at ht
  exact ⟨t, rfl, ht⟩
theorem tup_pd {K : PySem.W.Frag} {H : Hp} {t : Addr} {p : List Nat} (h : SqT K H t (p.map fun i => V.int (i : Nat))) (l : p.length ≤ 1000) : Rdd K H (.ref t) (pd p) := .tup h (of_ints p) (by rw [List.length_map]; omega)
theorem pd_good {p : List Nat} (h : ∀ i ∈ p, i < 4) : (pd p).good = true := by
  unfold pd
  simp only [D.good]
  refine goods_of fun d hd => ?_
  obtain ⟨i, hi, rfl⟩ := List.mem_map.mp hd
  have := h i hi
  simp only [D.good, decide_eq_true_eq]
  have : i = 0 ∨ i = 1 ∨ i = 2 ∨ i = 3 := by omega
  rcases this with rfl | rfl | rfl | rfl <;> decide
theorem path_low : ∀ {p : List Nat} {d : D} {n : Nat}, PathOf p d → OpN n d → ∀ i ∈ p, i < 4
  | [], _, _, _, _, i, h => by cases h
  | j :: p, d, 0, _, h, _, _ => h.elim
  | j :: p, d, n + 1, ⟨e, he, hp⟩, h, i, hi => by
    have h' := OpN.s.mp h
    rcases List.mem_cons.mp hi with rfl | hi
    · have := (List.getElem?_eq_some_iff.mp he).1
      omega
    · exact path_low hp (h'.2 e (List.mem_of_getElem? he)) i hi
theorem path_snoc : ∀ {p : List Nat} {d e : D} {i : Nat}, PathOf p d → (inn (subD p d))[i]? = some e → PathOf (p ++ [i]) d ∧ subD (p ++ [i]) d = e
  | [], d, e, i, _, h => ⟨⟨e, h, trivial⟩, by
    show (match (inn d)[i]? with | some e => subD [] e | none => d) = e
    have h' : (inn d)[i]? = some e := h
    rw [h']
    rfl⟩
  | j :: p, d, e, i, ⟨u, hu, hp⟩, h => by
    have e1 : subD (j :: p) d = subD p u := by
      show (match (inn d)[j]? with | some e => subD p e | none => d) = _
      rw [hu]
    rw [e1] at h
    have ih := path_snoc hp h
    refine ⟨⟨u, hu, ih.1⟩, ?_⟩
    show (match (inn d)[j]? with | some e => subD (p ++ [i]) e | none => d) = e
    rw [hu]
    exact ih.2
/-- l != [], l a list of such values -/
theorem ne_nilD {K : PySem.W.Frag} {H : Hp} {l p : Addr} {xs : List V} {ds : List D} {Q : VK} (hl : H l = some (.lst xs)) (hp : H p = some (.lst [])) (r : RddAll K H xs ds) (g : D.goods ds = true) (hd : D.deps ds ≤ 40) (q : Q (.bl (!xs.isEmpty)) H) : rNeD K (.ref l) (.ref p) H Q := by
  have h1 := deps_py ds
  have c : (PyData.list (D.pys ds)).canLay0 = true := by
    simp only [PyData.canLay0]
    exact (goods_show ds g).2
  refine ⟨.list (D.pys ds), .list [], .lst (SqL.of hl) (RddAll.dp ds g r), .lst (SqL.of hp) .nil, ?_, by rfl, ?_⟩
  · unfold SeqAt.shaped
    rw [c, decide_eq_true (show (PyData.list (D.pys ds)).depth ≤ 64 by simp only [PyData.depth]; omega)]
    rfl
  · have e : PyData.eqv (.list (D.pys ds)) (.list []) = xs.isEmpty := by
      cases r with
      | nil => rfl
      | cons _ _ => rfl
    rw [e]
    exact q
theorem deps_pd : ∀ ps : List (List Nat), D.deps (ps.map pd) ≤ 1
  | [] => by simp [D.deps]
  | p :: ps => by
    rw [List.map_cons]
    simp only [D.deps]
    have h1 := deps_pd ps
    have h2 : (pd p).dep ≤ 1 := by
      have : ∀ q : List Nat, D.deps (q.map fun i => D.int (i : Nat)) = 0 := by
        intro q
        induction q with
        | nil => simp [D.deps]
        | cons i q ih =>
          rw [List.map_cons]
          simp only [D.deps, ih, D.dep]
          rfl
      unfold pd
      simp only [D.dep, this]
      omega
    omega
theorem sum_snoc (f : List Nat → Nat) (l m : List (List Nat)) : ((l ++ m).map f).sum = (l.map f).sum + (m.map f).sum := by rw [List.map_append, List.sum_append_nat]
theorem RddAll.unsnoc {K : PySem.W.Frag} {H : Hp} {d : D} : ∀ {ds : List D} {ws : List V}, RddAll K H ws (ds ++ [d]) → ∃ ws0 x, ws = ws0 ++ [x] ∧ RddAll K H ws0 ds ∧ Rdd K H x d
  | [], _, h => by
    cases h with
    | cons h1 h2 =>
      cases h2
      exact ⟨[], _, rfl, .nil, h1⟩
  | e :: ds, _, h => by
    cases h with
    | cons h1 h2 =>
      obtain ⟨ws0, x, rfl, h3, h4⟩ := h2.unsnoc
      exact ⟨_ :: ws0, x, rfl, .cons h1 h3, h4⟩
theorem rdd_perm {α : Type} {K : PySem.W.Frag} {H : Hp} (f : α → D) {ys zs : List V} (h : ys.Perm zs) : ∀ ps : List α, RddAll K H zs (ps.map f) → ∃ qs : List α, qs.Perm ps ∧ RddAll K H ys (qs.map f) := by
  induction h with
  | nil => exact fun ps r => ⟨ps, List.Perm.refl _, r⟩
  | cons x _ ih =>
    intro ps r
    cases ps with
    | nil => cases r
    | cons p ps =>
      cases r with
      | cons h1 h2 =>
        obtain ⟨qs, e, r⟩ := ih ps h2
        exact ⟨p :: qs, e.cons p, .cons h1 r⟩
  | swap x y l =>
    intro ps r
    match ps, r with
    | [], r => cases r
    | [p], r =>
      cases r with
      | cons _ h2 => cases h2
    | p :: q :: ps, r =>
      cases r with
      | cons h1 h2 =>
        cases h2 with
        | cons h3 h4 => exact ⟨q :: p :: ps, List.Perm.swap p q ps, .cons h3 (.cons h1 h4)⟩
  | trans _ _ i1 i2 =>
    intro ps r
    obtain ⟨qs, e, r⟩ := i2 ps r
    obtain ⟨us, e2, r2⟩ := i1 qs r
    exact ⟨us, e2.trans e, r2⟩
theorem range_map {α β : Type} {g : Nat → β} {h : α → β} (l : List α) (e : ∀ i x, l[i]? = some x → g i = h x) : (List.range l.length).map g = l.map h := by
  refine List.ext_getElem? fun i => ?_
  rw [List.getElem?_map, List.getElem?_map]
  by_cases hi : i < l.length
  · rw [List.getElem?_range hi, List.getElem?_eq_getElem hi]
    exact congrArg some (e i _ (List.getElem?_eq_getElem hi))
  · rw [List.getElem?_eq_none (by rw [List.length_range]; omega), List.getElem?_eq_none (by omega)]
    rfl
section
variable {P : Program} {w : World} {K : PySem.W.Frag} {mg : Str → Option Value} {base : Heap} {fIn fPa fPs : Addr} {fdIn fdPa fdPs : FuncData}
def spPaths (K : PySem.W.Frag) : Sp := fun vs H Q _ => ∃ (v : V) (d : D) (n : Nat), vs = [v] ∧ Rdd K H v d ∧ OpN n d ∧ n ≤ 9 ∧
  ∀ (p : Addr) (zs : List V) (ps : List (List Nat)) (H' : Hp), Same H H' → H p = none → H' p = some (.lst zs) → RddAll K H' zs (ps.map pd) → (∀ q ∈ ps, PathOf q d) → ps.length = cnt n d → Q (.ref p) H'
theorem ok_paths (F : Fun K "_law_paths" "_law_paths" sPaths fPs fdPs) (T : Lp K mg fIn fPa fdIn fdPa) (B : Bt mg) : FnOk P w K mg base CX0 3 fPs fdPs ["_law_root"] (spPaths K) := by
  have GI : FnOk P w K mg base CX0 1 fIn fdIn ["_law_part_here"] (spInn K) := ok_inner T B
  have GA : FnOk P w K mg base CX0 2 fPa fdPa ["_law_root", "_law_path"] (spPart K) := ok_part T B
  refine F.ok scPaths (fun vs H Q E h => ?_) (fun cdv A outer s H vs Q E hr h => ?_)
  · obtain ⟨v, d, n, rfl, _⟩ := h
    rfl
  · obtain ⟨v, d, n, rfl, hv, ho, hn, q⟩ := h
    have h1 := hr.mono (by decide : 1 ≤ 2)
    have hu := hr.units
    refine ⟨_, (pss_cons (ps_par (i := 1) (j := 2) (by rfl) scPaths.nd rfl rfl (by decide) rfl rfl (pa_cons (pe_lst pa_nil) (pa_cons (pe_lst (pa_cons (pe_tup pa_nil) pa_nil)) pa_nil)) (by rfl))
      (pss_cons (ps_while PassesOwn.never (pt_cmpR (op_neD hr.units) (pv 2) (pe_lst pa_nil) (nomark _))
        (pss_cons (ps_set (i := 3) scPaths.nd rfl (Or.inr rfl) (pe_bm0 PySem.F.plainAttrs_list PySem.F.slot_list_pop PySem.F.type_list_pop mt_pop (pv 2)))
        (pss_cons (ps_expr (pe_bm PySem.F.plainAttrs_list PySem.F.slot_list_append PySem.F.type_list_append mt_append (pv 1) (pa_cons (pv 3) pa_nil)))
        (pss_one (ps_expr (pe_bm PySem.F.plainAttrs_list PySem.F.slot_list_extend PySem.F.type_list_extend mt_extend (pv 2) (pa_cons
          (pe_lc (own := [("_law_spot", 4)]) (g := gName 4) (tt := tYes) (te := tOp (rCatA K) (tVar 3) (tTup (tCons (tVar 4) tNil))) rfl scPaths.nd (pi_range1 (by rfl) B.range (pa_cons (pe_callB call_len_seq (by rfl) B.len PySem.boot_len (pa_cons (pe_call GI h1 (by rfl) T.gIn T.FIn.kp T.bIn .nil pass0 (pa_cons (pe_call GA hr (by rfl) T.gPa T.FPa.kp T.bPa .nil pass0 (pa_cons (pv 0) (pa_cons (pv 3) pa_nil))) pa_nil)) pa_nil)) pa_nil))
            (blkOk_by (own := [("_law_spot", 4)]) (N := ["_law_root", "_law_found", "_law_waits", "_law_path", "_law_spot"]) (sc := defScope sPaths) (by decide +kernel))
            (fun _ _ _ _ _ => pg_name (i := 4) scPaths.nd rfl (Or.inl rfl)) (fun _ _ _ _ _ => pts_nil)
            (fun _ _ _ _ _ => by exact pe_op op_catA (pv 3) (pe_tup (pa_cons (pv 4) pa_nil)))) pa_nil)))))))
      (pss_one (ps_ret (pe_callB (cr_sortedTin hr.units) (by rfl) B.sorted (by decide +kernel) (pa_cons (pv 1) pa_nil)))))), ?_⟩
    have sl := sizeLine_eq
    have hW : cnt n d ≤ 100000 := by
      have e1 := cnt_le n d ho
      have e2 := wide_le hn
      have e3 : wide 9 = 87381 := by decide
      omega
    refine ⟨(by show 0 ≤ sizeLine; decide), fun f nf => ?_⟩
    have s1 := Same.new (o := .lst []) nf
    have hf : (upd H f (.lst [])) f = some (.lst []) := upd_same
    generalize upd H f (.lst []) = H1 at s1 hf ⊢
    refine ⟨(by show 0 ≤ sizeLine; decide), fun t0 nt0 => ?_⟩
    have s2 := Same.new (o := .tup []) nt0
    have ht0 : (upd H1 t0 (.tup [])) t0 = some (.tup []) := upd_same
    generalize upd H1 t0 (.tup []) = H2 at s2 ht0 ⊢
    refine ⟨(by show 1 ≤ sizeLine; decide), fun w0 nw0 => ⟨_, _, rfl, ?_⟩⟩
    have s3 := Same.new (o := .lst [V.ref t0]) nw0
    have hw : (upd H2 w0 (.lst [V.ref t0])) w0 = some (.lst [V.ref t0]) := upd_same
    have nw : H w0 = none := (s1.trans s2).fr nw0
    have nfw : f ≠ w0 := ne_of_none (s2 _ _ hf) nw0
    generalize upd H2 w0 (.lst [V.ref t0]) = H3 at s3 hw ⊢
    have s03 := (s1.trans s2).trans s3
    let C : List Nat → Nat := fun p => cnt (n - p.length) (subD p d)
    have oksum : ∀ qs : List (List Nat), (∀ p ∈ qs, PathOf p d) → qs.length ≤ (qs.map C).sum := by
      intro qs
      induction qs with
      | nil => exact fun _ => Nat.zero_le _
      | cons p qs ih =>
        intro hp
        have e1 := cnt_pos (sub_ok (hp p List.mem_cons_self) ho).1
        have e2 := ih fun z hz => hp z (List.mem_cons_of_mem _ hz)
        rw [List.map_cons, List.sum_cons, List.length_cons]
        show _ ≤ cnt (n - p.length) (subD p d) + _
        omega
    refine ⟨fun m σ' H' => ∃ (y : Option V) (zs : List V) (ps : List (List Nat)) (ws : List V) (qs : List (List Nat)), σ' = [some v, some (.ref f), some (.ref w0), y, none] ∧ Same H H' ∧ H' f = some (.lst zs) ∧ H' w0 = some (.lst ws) ∧ RddAll K H' zs (ps.map pd) ∧ RddAll K H' ws (qs.map pd) ∧ (∀ p ∈ ps, PathOf p d) ∧ (∀ p ∈ qs, PathOf p d) ∧
      ps.length + (qs.map C).sum = cnt n d ∧ m = (qs.map C).sum ∧ ((ps = [] ∧ qs = [[]]) ∨ ps[0]? = some []), ⟨cnt n d, none, [], [], [.ref t0], [[]], rfl, s03, s3 _ _ (s2 _ _ hf), hw, .nil, .cons (tup_pd (SqT.of (s3 _ _ ht0)) (by decide)) .nil, (fun p hp => by cases hp), (fun p hp => by rw [List.mem_singleton.mp hp]; trivial), ?_, ?_, .inl ⟨rfl, rfl⟩⟩, ?_⟩
    · show 0 + (cnt n d + 0) = cnt n d
      omega
    · show cnt n d = cnt (n - 0) d + 0
      rfl
    rintro m σ' H' ⟨y, zs, ps, ws, qs, rfl, s, hf', hw', rz, rw', okp, okq, tot, rfl, first⟩
    have gq : D.goods (qs.map pd) = true := goods_of fun x hx => by
      obtain ⟨p, hp, rfl⟩ := List.mem_map.mp hx
      exact pd_good (path_low (okq p hp) ho)
    have dq := deps_pd qs
    refine ⟨.ref w0, rfl, (by show 0 ≤ sizeLine; decide), fun e0 ne0 => ?_⟩
    have se := Same.new (o := .lst []) ne0
    have he0 : (upd H' e0 (.lst [])) e0 = some (.lst []) := upd_same
    generalize upd H' e0 (.lst []) = H4 at se he0 ⊢
    have s4 := s.trans se
    have hf4 := se _ _ hf'
    have hw4 := se _ _ hw'
    have rz4 := RddAll.ex (.same se) _ rz
    have rw4 := RddAll.ex (.same se) _ rw'
    refine ne_nilD hw4 he0 rw4 gq (by omega) ⟨_, rfl, ite2 (fun e => ?_) (fun e => ?_)⟩
    · have qne : qs ≠ [] := fun z => by
        subst z
        cases rw'
        cases e
      obtain ⟨qs0, q0, rfl⟩ : ∃ qs0 q0, qs = qs0 ++ [q0] := ⟨qs.dropLast, qs.getLast qne, (List.dropLast_concat_getLast qne).symm⟩
      rw [List.map_append] at rw4
      obtain ⟨ws0, x, rfl, rw0, rx⟩ := rw4.unsnoc
      have pq0 := okq q0 (List.mem_append_right _ (List.mem_singleton.mpr rfl))
      obtain ⟨t, rfl, ht⟩ := pd_tup rx
      obtain ⟨o1, l1⟩ := sub_ok pq0 ho
      obtain ⟨m1, hm1⟩ : ∃ m1, n - q0.length = m1 + 1 := ⟨n - q0.length - 1, by omega⟩
      rw [hm1] at o1
      have o1' := OpN.s.mp o1
      have totq : ((qs0 ++ [q0]).map C).sum = (qs0.map C).sum + (1 + ((inn (subD q0 d)).map (cnt m1)).sum) := by
        rw [sum_snoc]
        show _ + (cnt (n - q0.length) (subD q0 d) + 0) = _
        rw [hm1, Nat.add_zero, cnt_s]
      refine ⟨fun σ2 H5 => ∃ m', m' < ((qs0 ++ [q0]).map C).sum ∧ ∃ (y : Option V) (zs : List V) (ps : List (List Nat)) (ws : List V) (qs : List (List Nat)), σ2 = [some v, some (.ref f), some (.ref w0), y, none] ∧ Same H H5 ∧ H5 f = some (.lst zs) ∧ H5 w0 = some (.lst ws) ∧ RddAll K H5 zs (ps.map pd) ∧ RddAll K H5 ws (qs.map pd) ∧ (∀ p ∈ ps, PathOf p d) ∧ (∀ p ∈ qs, PathOf p d) ∧
        ps.length + (qs.map C).sum = cnt n d ∧ m' = (qs.map C).sum ∧ ((ps = [] ∧ qs = [[]]) ∨ ps[0]? = some []), fun σ2 H5 h => h, ?_⟩
      refine ⟨.ref w0, rfl, .inl ⟨rfl, _, SqL.of hw4⟩, w0, ws0 ++ [.ref t], .ref t, rfl, rfl, hw4, by simp, ?_⟩
      rw [List.dropLast_concat]
      have x5 : Ex H4 (upd H4 w0 (.lst ws0)) := (Off.put (a := w0)).ex hw4 upd_same
      have s5 : Same H (upd H4 w0 (.lst ws0)) := jr_same.put s4 nw
      have hf5 : (upd H4 w0 (.lst ws0)) f = some (.lst zs) := by rw [upd_ne nfw]; exact hf4
      have hw5 : (upd H4 w0 (.lst ws0)) w0 = some (.lst ws0) := upd_same
      generalize upd H4 w0 (.lst ws0) = H5 at x5 s5 hf5 hw5 ⊢
      have rz5 := RddAll.ex x5 _ rz4
      have rw5 := RddAll.ex x5 _ rw0
      have rx5 := Rdd.ex x5 _ rx
      have lz := rz.length
      rw [List.length_map] at lz
      refine ⟨.ref f, rfl, .inl ⟨rfl, _, SqL.of hf5⟩, .ref t, rfl, f, zs, _, rfl, rfl, hf5, by omega, ?_⟩
      have x6 : Ex H5 (upd H5 f (.lst (zs ++ [.ref t]))) := (Off.put (a := f)).ex hf5 upd_same
      have s6 : Same H (upd H5 f (.lst (zs ++ [.ref t]))) := jr_same.put s5 nf
      have hf6 : (upd H5 f (.lst (zs ++ [.ref t]))) f = some (.lst (zs ++ [.ref t])) := upd_same
      have hw6 : (upd H5 f (.lst (zs ++ [.ref t]))) w0 = some (.lst ws0) := by rw [upd_ne (Ne.symm nfw)]; exact hw5
      generalize upd H5 f (.lst (zs ++ [.ref t])) = H6 at x6 s6 hf6 hw6 ⊢
      have rz6 := (RddAll.ex x6 _ rz5).snoc (Rdd.ex x6 _ rx5)
      have rw6 := RddAll.ex x6 _ rw5
      have rx6 := Rdd.ex x6 _ rx5
      obtain ⟨t', et, ht6⟩ := pd_tup rx6
      cases et
      refine ⟨.ref w0, rfl, .inl ⟨rfl, _, SqL.of hw6⟩, v, rfl, .ref t, rfl, v, d, t, q0, n, rfl, Rdd.ex (.same s6) _ hv, ho, ht6, pq0, fun r H7 s7 rr => ⟨r, subD q0 d, rfl, rr, o1'.1.1, fun r2 H8 s8 rr2 => ?_⟩⟩
      obtain ⟨b, us, rfl, hb, hus, _⟩ := rr2.tupd'
      have lus := hus.length
      have s68 := s7.trans s8
      refine ⟨b, us, rfl, .inr hb, us.length, rfl, by omega, by omega, fun D0 nD => ?_⟩
      refine lcJR (K := K) (J := Same) (Pd := fun i x => x = pd (q0 ++ [i])) jr_same (Same.refl _) (by omega) nD ?_ ?_
      · intro i H9 Q9 Z9 hi s9 hQ
        refine ⟨rfl, ?_⟩
        refine iteT (B := Z9 H9) ⟨.ref t, rfl, _, rfl, (by show 1 ≤ sizeLine; decide), fun a na => ?_⟩
        have sa := Same.new (o := .tup [V.int (0 + (i : Int))]) na
        have ha : (upd H9 a (.tup [V.int (0 + (i : Int))])) a = some (.tup [V.int (0 + (i : Int))]) := upd_same
        generalize upd H9 a (.tup [V.int (0 + (i : Int))]) = Ha at sa ha ⊢
        rw [show (0 : Int) + (i : Int) = ((i : Nat) : Int) by omega] at ha
        have s6a := (s68.trans s9).trans sa
        have hta := (Ex.same s6a).tup ht6
        have lq : q0.length ≤ 9 := by omega
        refine ⟨t, a, _, _, rfl, rfl, hta, SqT.of ha, by rw [List.length_map]; simp; omega, fun z => ?_, (fun _ z => by cases z), fun z _ c nc => ?_⟩
        · have eq0 : q0 = [] := List.map_eq_nil_iff.mp z
          subst eq0
          exact hQ _ _ _ sa (tup_pd (p := [i]) (SqT.of ha) (by simp)) rfl
        · have sc := Same.new (o := .tup ((q0.map fun i => V.int (i : Nat)) ++ [V.int (i : Nat)])) nc
          refine hQ _ _ _ (sa.trans sc) (tup_pd (p := q0 ++ [i]) (SqT.of ?_) (by rw [List.length_append]; simp; omega)) rfl
          rw [List.map_append]
          exact upd_same
      · intro H9 accs ds s9 hD ra la hds
        have eds : ds = ((List.range us.length).map fun i => q0 ++ [i]).map pd := by
          refine List.ext_getElem? fun i => ?_
          rw [List.getElem?_map, List.getElem?_map]
          by_cases hi : i < us.length
          · rw [List.getElem?_range hi, List.getElem?_eq_getElem (show i < ds.length by omega)]
            exact congrArg some (hds i _ (List.getElem?_eq_getElem (show i < ds.length by omega)))
          · rw [List.getElem?_eq_none (by omega), List.getElem?_eq_none (by rw [List.length_range]; omega)]
            rfl
        subst eds
        have s69 := s68.trans s9
        have hw9 := s69 _ _ hw6
        have lr := ra.length
        rw [List.length_map, List.length_map, List.length_range] at lr
        have lw := rw0.length
        rw [List.length_map] at lw
        have oq := oksum qs0 fun p hp => okq p (List.mem_append_left _ hp)
        rw [totq] at tot
        refine ⟨w0, D0, ws0, accs, rfl, rfl, hw9, hD, by omega, ?_⟩
        have xA : Ex H9 (upd H9 w0 (.lst (ws0 ++ accs))) := (Off.put (a := w0)).ex hw9 upd_same
        have psn : ∀ i e, (inn (subD q0 d))[i]? = some e → PathOf (q0 ++ [i]) d ∧ subD (q0 ++ [i]) d = e := fun i e he => path_snoc pq0 he
        have sumr : (((List.range us.length).map fun i => q0 ++ [i]).map C).sum = ((inn (subD q0 d)).map (cnt m1)).sum := by
          rw [List.map_map, lus]
          congr 1
          refine range_map _ fun i e he => ?_
          show cnt (n - (q0 ++ [i]).length) (subD (q0 ++ [i]) d) = cnt m1 e
          rw [(psn i e he).2, List.length_append]
          congr 1
          simp
          omega
        refine ⟨_, ?_, _, zs ++ [.ref t], ps ++ [q0], ws0 ++ accs, qs0 ++ (List.range us.length).map fun i => q0 ++ [i], rfl, jr_same.put (s6.trans s69) nw, by rw [upd_ne nfw]; exact s69 _ _ hf6, upd_same, ?_, ?_, ?_, ?_, ?_, rfl, .inr ?_⟩
        · rw [sum_snoc, sumr, totq]
          omega
        · rw [List.map_append]
          exact RddAll.ex xA _ (RddAll.ex (.same s69) _ rz6)
        · rw [List.map_append]
          exact (RddAll.ex xA _ (RddAll.ex (.same s69) _ rw6)).app' (RddAll.ex xA _ ra)
        · intro p hp
          rcases List.mem_append.mp hp with hp | hp
          · exact okp p hp
          · rw [List.mem_singleton.mp hp]
            exact pq0
        · intro p hp
          rcases List.mem_append.mp hp with hp | hp
          · exact okq p (List.mem_append_left _ hp)
          · obtain ⟨i, hi, rfl⟩ := List.mem_map.mp hp
            have hi' := List.mem_range.mp hi
            exact (psn i _ (List.getElem?_eq_getElem (by omega))).1
        · rw [sum_snoc, sumr, List.length_append]
          simp
          omega
        · rcases first with ⟨rfl, e1⟩ | e1
          · have e2 : qs0 = [] ∧ q0 = [] := by
              cases qs0 with
              | nil => exact ⟨rfl, (List.cons.inj e1).1⟩
              | cons a l =>
                have := congrArg List.length e1
                simp at this
            rw [e2.2]
            rfl
          · rw [List.getElem?_append_left (List.getElem?_eq_some_iff.mp e1).1]
            exact e1
    · have qe : qs = [] := by
        cases qs with
        | nil => rfl
        | cons a b =>
          have := rw'.length
          cases ws with
          | nil => simp at this
          | cons _ _ => exact absurd rfl e
      subst qe
      have f0 : ps[0]? = some [] := by
        rcases first with ⟨_, e1⟩ | e1
        · cases e1
        · exact e1
      have tot' : ps.length = cnt n d := tot
      obtain ⟨x0, hx0, rx0⟩ := rz4.at (i := 0) (d := pd []) (by rw [List.getElem?_map, f0]; rfl)
      obtain ⟨t1, rfl, ht1⟩ := pd_tup rx0
      refine ⟨.ref f, rfl, f, zs, rfl, SqL.of hf4, fun x hx => ?_, ⟨t1, hx0, ht1⟩, fun ys p hp np => ?_⟩
      · obtain ⟨i, hi, rfl⟩ := List.getElem_of_mem hx
        obtain ⟨d1, hd1, rd1⟩ := rz4.get (List.getElem?_eq_getElem hi)
        rw [List.getElem?_map] at hd1
        obtain ⟨p1, _, rfl⟩ := Option.map_eq_some_iff.mp hd1
        obtain ⟨t2, e2, ht2⟩ := pd_tup rd1
        refine ⟨t2, p1.map fun i => ((i : Nat) : Int), e2, ?_⟩
        rw [List.map_map]
        exact ht2
      · obtain ⟨qs, hq, rq⟩ := rdd_perm pd hp ps rz4
        have sp := Same.new (o := .lst ys) np
        exact q p ys qs _ (s4.trans sp) (s4.fr np) upd_same (RddAll.ex (.same sp) _ rq) (fun z hz => okp z (hq.mem_iff.mp hz)) (hq.length_eq.trans tot')
end
end Sl

set_option Elab.async false
set_option linter.all false
set_option maxRecDepth 100000
set_option maxHeartbeats 400000
namespace Sl
open PySem PySem.Spec PyProof.Rows L2
theorem scWith : FnScope ["_law_part_here", "_law_some_here", "_law_names", "_law_name_here", "_law_inner_here"] ["_law_part_here", "_law_some_here"] (defScope sWith) := ⟨rfl, rfl, rfl, by decide +kernel, rfl, by decide +kernel, by decide +kernel⟩
theorem cut_last (us : List V) (x : V) : cutV (us ++ [x]) none (some (-1)) = us := by
  unfold cutV
  have e : HT.sIx (us ++ [x]).length (us ++ [x]).length (some (-1)) = us.length := by
    unfold HT.sIx
    rw [List.length_append]
    simp
    omega
  rw [e, HT.sIx_none]
  simp
theorem zip_rdd {K : PySem.W.Frag} {H : Hp} : ∀ {ts : List Addr} {ns : List Str} {us : List V} {ds : List D}, ts.length = ns.length → ns.length = us.length → RddAll K H us ds →
    (∀ (j : Nat) (t : Addr) (x y : V), ts[j]? = some t → (ns.map V.str)[j]? = some x → us[j]? = some y → H t = some (.tup [x, y])) → RddAll K H (ts.map V.ref) (mkPs (ns.zip ds))
  | [], [], [], _, _, _, r, _ => by
    cases r
    exact .nil
  | t :: ts, n :: ns, u :: us, _, h1, h2, r, f => by
    cases r with
    | cons r1 r2 =>
      have ht := f 0 t _ _ rfl rfl rfl
      exact .cons (.tup (SqT.of ht) (.cons (.str _) (.cons r1 .nil)) (Nat.le_of_ble_eq_true rfl)) (zip_rdd (by simpa using h1) (by simpa using h2) r2 fun j t x y a b c => f (j + 1) t x y a b c)
  | [], _ :: _, _, _, h, _, _, _ => by cases h
  | _ :: _, [], _, _, h, _, _, _ => by cases h
  | [], [], _ :: _, _, _, h, _, _ => by cases h
  | _ :: _, _ :: _, [], _, _, h, _, _ => by cases h
section
variable {P : Program} {w : World} {K : PySem.W.Frag} {mg : Str → Option Value} {base : Heap} {fWi : Addr} {fdWi : FuncData}
def spWith (K : PySem.W.Frag) : Sp := fun vs H Q _ => ∃ (v : V) (d : D) (l : Addr) (us : List V) (ds : List D), vs = [v, .ref l] ∧ Rdd K H v d ∧ built d = true ∧ d.isU = false ∧ H l = some (.lst us) ∧ RddAll K H us ds ∧ ds.length = (inn d).length ∧ ∀ r H', Same H H' → Rdd K H' r (withI d ds) → Q r H'
theorem ok_with (F : Fun K "_law_with_inner" "_law_with_inner" sWith fWi fdWi) (B : Bt mg) (zg : mg "zip" = none) : FnOk P w K mg base CX0 1 fWi fdWi ["_law_part_here", "_law_some_here"] (spWith K) := by
  refine F.ok scWith (fun vs H Q E h => ?_) (fun cdv A outer s H vs Q E hr h => ?_)
  · obtain ⟨v, d, l, us, ds, rfl, _⟩ := h
    rfl
  · obtain ⟨v, d, l, us, ds, rfl, hv, hb, hu, hl, ru, hz, q⟩ := h
    refine ⟨_, (pss_cons (ps_if (pt_cmpR op_eq (pe_ix ix_tup (pv 0) pe_int (fun _ _ => rfl)) pe_str (nomark _))
        (pss_one (ps_ret (pe_tup (pa_cons pe_str (pa_cons (pe_ix ix_tup (pv 0) pe_int (fun _ _ => rfl)) (pa_cons (pe_callTy call_tuple_of (by rfl) B.tuple (by decide +kernel) (pa_cons (pv 1) pa_nil)) pa_nil))))))
        pss_nil)
      (pss_cons (ps_if (pt_cmpR op_eq (pe_ix ix_tup (pv 0) pe_int (fun _ _ => rfl)) pe_str (nomark _))
        (pss_one (ps_ret (pe_tup (pa_cons pe_str (pa_cons (pe_ix ix_tup (pv 0) pe_int (fun _ _ => rfl)) (pa_cons (pe_ix ix_list (pv 1) pe_int (fun _ _ => rfl)) pa_nil))))))
        pss_nil)
      (pss_cons (ps_setLc (i := 2) (own := [("_law_name_here", 3), ("_law_inner_here", 4)]) (g := gTup K 2 (gCons (gName 3) (gCons (gName 4) gNil))) (tt := tYes) rfl scWith.nd rfl rfl (sw_true rfl rfl rfl (by decide +kernel)) (pi_tup (pe_ix ix_tup (pv 0) pe_int (fun _ _ => rfl))) (blkOk_by (own := [("_law_name_here", 3), ("_law_inner_here", 4)]) (N := ["_law_part_here", "_law_some_here", "_law_names", "_law_name_here", "_law_inner_here"]) (sc := defScope sWith) (by decide +kernel))
            (fun _ _ _ _ _ => pg_tup rfl (pgs_cons (pg_name (i := 3) scWith.nd rfl (Or.inl rfl)) (pgs_cons (pg_name (i := 4) scWith.nd rfl (Or.inl rfl)) pgs_nil))) (fun _ _ _ _ _ => pts_nil)
            (fun _ _ _ _ _ => pv 3))
      (pss_one (ps_ret (pe_tup (pa_cons pe_str (pa_cons (pe_callTy call_tuple_of (by rfl) B.tuple (by decide +kernel) (pa_cons (pe_listZip rfl (pa_cons (pv 2) (pa_cons (pe_slice sl_list (pv 1) po_none (po_some (pe_un un_neg pe_int))) pa_nil)) (by rfl) B.list (by decide +kernel) (by rfl) zg) pa_nil)) (pa_cons (pe_ix ix_list (pv 1) (pe_un un_neg pe_int) (fun _ _ => rfl)) pa_nil))))))))), ?_⟩
    have sl := sizeLine_eq
    rcases built_cases hb with ⟨x, rfl, _⟩ | ⟨x, l0, rfl, hx, hl0⟩ | ⟨x, b, rfl, hx⟩ | ⟨ps, b, rfl, hp⟩
    · cases hu
    · obtain ⟨a, xs, rfl, hs, hx3, _⟩ := hv.tupd'
      obtain ⟨x1, x2, x3, rfl, r1, r2, r3⟩ := hx3.trip
      cases r1
      rw [inn_W] at hz
      refine ⟨.ref a, rfl, a, _, 0, _, rfl, rfl, hs, atI_nat (j := 0) rfl, rfl, _, rfl, ?_⟩
      rw [str_dec, decide_eq_true rfl]
      refine iteT ⟨.ref a, rfl, a, _, 1, _, rfl, rfl, hs, atI_nat (j := 1) rfl, .ref l, rfl, l, us, rfl, .inl ⟨SqL.of hl, fun p np => ?_⟩⟩
      have s1 := Same.new (o := .tup us) np
      have h1 : (upd H p (.tup us)) p = some (.tup us) := upd_same
      generalize upd H p (.tup us) = H1 at s1 h1 ⊢
      refine ⟨(by show 3 ≤ sizeLine; decide), fun p2 np2 => ?_⟩
      have s2 := Same.new (o := .tup [V.str "word", x2, .ref p]) np2
      have s12 := s1.trans s2
      rw [with_W] at q
      refine q _ _ s12 (.tup (SqT.of upd_same) (.cons (.str _) (.cons (Rdd.ex (.same s12) _ r2) (.cons (.tup (SqT.of (s2 _ _ h1)) (RddAll.ex (.same s12) _ ru) (by omega)) .nil))) (Nat.le_of_ble_eq_true rfl))
    · obtain ⟨a, xs, rfl, hs, hx3, _⟩ := hv.tupd'
      obtain ⟨x1, x2, x3, rfl, r1, r2, r3⟩ := hx3.trip
      cases r1
      rw [inn_F] at hz
      match ds, hz with
      | [e], _ =>
        obtain ⟨u, hu0, ru0⟩ := ru.at (i := 0) rfl
        refine ⟨.ref a, rfl, a, _, 0, _, rfl, rfl, hs, atI_nat (j := 0) rfl, rfl, _, rfl, ?_⟩
        rw [str_dec, decide_eq_false ne_wf]
        refine iteF ⟨.ref a, rfl, a, _, 0, _, rfl, rfl, hs, atI_nat (j := 0) rfl, rfl, _, rfl, ?_⟩
        rw [str_dec, decide_eq_true rfl]
        refine iteT ⟨.ref a, rfl, a, _, 1, _, rfl, rfl, hs, atI_nat (j := 1) rfl, .ref l, rfl, l, us, 0, u, rfl, rfl, SqL.of hl, atI_nat (j := 0) hu0, (by show 3 ≤ sizeLine; decide), fun p2 np2 => ?_⟩
        have s2 := Same.new (o := .tup [V.str "fun", x2, u]) np2
        rw [with_F] at q
        exact q _ _ s2 (.tup (SqT.of upd_same) (.cons (.str _) (.cons (Rdd.ex (.same s2) _ r2) (.cons (Rdd.ex (.same s2) _ ru0) .nil))) (Nat.le_of_ble_eq_true rfl))
    · obtain ⟨a, xs, rfl, hs, hx3, _⟩ := hv.tupd'
      obtain ⟨x1, x2, x3, rfl, r1, r2, r3⟩ := hx3.trip
      cases r1
      obtain ⟨c, ys, rfl, hc, hy, hyz⟩ := r2.tupd'
      rw [inn_L, List.length_append, List.length_map] at hz
      obtain ⟨ds0, e, rfl, hd0⟩ := last_split hz
      obtain ⟨us0, u, rfl, ru0, ru1⟩ := ru.unsnoc
      have lu0 := ru0.length
      refine ⟨.ref a, rfl, a, _, 0, _, rfl, rfl, hs, atI_nat (j := 0) rfl, rfl, _, rfl, ?_⟩
      rw [str_dec, decide_eq_false ne_wl]
      refine iteF ⟨.ref a, rfl, a, _, 0, _, rfl, rfl, hs, atI_nat (j := 0) rfl, rfl, _, rfl, ?_⟩
      rw [str_dec, decide_eq_false ne_fl]
      refine iteF ?_
      obtain ⟨_, _, _, at'⟩ := hy.snds
      have ly := hy.length
      have lp : (mkPs ps).length = ps.length := List.length_map ..
      have hp2 := hp.2.1
      have lns : (ps.map (·.1)).length = ps.length := List.length_map ..
      refine ⟨.ref a, rfl, a, _, 1, .ref c, rfl, rfl, hs, atI_nat (j := 1) rfl, c, rfl, ⟨_, hc⟩, fun D0 nD => lcT (((ps.map (·.1)).map V.str).map some) (by rw [List.length_map, List.length_map, lns]; omega) (by omega) hc nD ?_ ?_⟩
      · intro i x H2 Q2 Z2 hx sm hQ _
        obtain ⟨t, y, w1, rfl, ht, _, hy1⟩ := at' i x hx
        refine ⟨t, _, rfl, (Ex.same sm).tup ht, rfl, _, _, rfl, _, _, rfl, rfl, rfl, ?_⟩
        refine iteT (B := Z2 H2) ⟨_, rfl, hQ _ _ ?_ (Same.refl _)⟩
        rw [List.getElem?_map, List.getElem?_map, hy1]
        rfl
      · intro H2 sm hl2
        rw [fm_snd] at hl2
        refine ⟨.ref D0, rfl, .ref l, rfl, 1, rfl, _, rfl, l, us0 ++ [u], rfl, SqL.of (sm _ _ hl), fun p np => ?_⟩
        rw [cut_last]
        have s3 := Same.new (o := .lst us0) np
        have h3 : (upd H2 p (.lst us0)) p = some (.lst us0) := upd_same
        generalize upd H2 p (.lst us0) = H3 at s3 h3 ⊢
        refine ⟨D0, p, (ps.map (·.1)).map V.str, us0, rfl, SqL.of (s3 _ _ hl2), SqL.of h3, by rw [List.length_map, lns]; omega, fun H4 p4 ts z => ?_⟩
        obtain ⟨z1, z2, z3, z4, z5, z6, z7⟩ := z
        rw [List.length_map, lns] at z6
        have s34 : Same H3 H4 := z1
        have s24 := s3.trans s34
        have s04 := sm.trans s24
        have rp : RddAll K H4 (ts.map V.ref) (mkPs ((ps.map (·.1)).zip ds0)) := zip_rdd (by rw [lns]; exact z6) (by rw [lns]; omega) (RddAll.ex (.same s04) _ ru0) z7
        refine ⟨p4, _, rfl, .inl ⟨SqL.of z5, fun p5 n5 => ?_⟩⟩
        have s5 := Same.new (o := .tup (ts.map V.ref)) n5
        have h5 : (upd H4 p5 (.tup (ts.map V.ref))) p5 = some (.tup (ts.map V.ref)) := upd_same
        generalize upd H4 p5 (.tup (ts.map V.ref)) = H5 at s5 h5 ⊢
        have s05 := s04.trans s5
        refine ⟨.ref l, rfl, 1, rfl, l, us0 ++ [u], -1, u, rfl, rfl, SqL.of (s05 _ _ hl), atI_last _ _, (by show 3 ≤ sizeLine; decide), fun p6 n6 => ?_⟩
        have s6 := Same.new (o := .tup [V.str "let", .ref p5, u]) n6
        have s06 := s05.trans s6
        rw [with_L] at q
        refine q _ _ s06 (.tup (SqT.of upd_same) (.cons (.str _) (.cons (.tup (SqT.of (s6 _ _ h5)) (RddAll.ex (.same (s5.trans s6)) _ rp) ?_) (.cons (Rdd.ex (.same s06) _ ru1) .nil))) (Nat.le_of_ble_eq_true rfl))
        show (mkPs _).length ≤ _
        unfold mkPs
        rw [List.length_map, List.length_zip, lns]
        omega
end
end Sl

set_option Elab.async false
set_option linter.all false
set_option maxRecDepth 100000
set_option maxHeartbeats 400000
namespace Sl
open PySem PySem.Spec PyProof.Rows L2
abbrev sPut : Stmt := topT 36
theorem scPut : FnScope ["_law_root", "_law_path", "_law_part_here", "_law_some_here"] ["_law_root", "_law_path", "_law_part_here"] (defScope sPut) := ⟨rfl, rfl, rfl, by decide +kernel, rfl, by decide +kernel, by decide +kernel⟩
theorem cut_from1 (x : V) (xs : List V) : cutV (x :: xs) (some 1) none = xs := by
  unfold cutV HT.sIx
  simp
theorem put_at {d e c : D} {i : Nat} {p : List Nat} (h : (inn d)[i]? = some c) : putD (i :: p) d e = withI d ((inn d).set i (putD p c e)) := by
  show (match (inn d)[i]? with | some c => withI d ((inn d).set i (putD p c e)) | none => d) = _
  rw [h]
theorem RddAll.set {K : PySem.W.Frag} {H : Hp} {x : V} {d : D} (h : Rdd K H x d) : ∀ {xs : List V} {ds : List D} (i : Nat), RddAll K H xs ds → RddAll K H (xs.set i x) (ds.set i d)
  | _, _, _, .nil => .nil
  | _, _, 0, .cons _ t => .cons h t
  | _, _, i + 1, .cons a t => .cons a (RddAll.set h i t)
section
variable {P : Program} {w : World} {K : PySem.W.Frag} {mg : Str → Option Value} {base : Heap} {fWi fPu fIn fPa : Addr} {fdWi fdPu fdIn fdPa : FuncData}
structure Lq (K : PySem.W.Frag) (mg : Str → Option Value) (fWi fPu : Addr) (fdWi fdPu : FuncData) : Prop where
  FWi : Fun K "_law_with_inner" "_law_with_inner" sWith fWi fdWi
  bWi : Binds K fdWi ["_law_part_here", "_law_some_here"] []
  gWi : mg "_law_with_inner" = some (.ref fWi)
  FPu : Fun K "_law_put" "_law_put" sPut fPu fdPu
  bPu : Binds K fdPu ["_law_root", "_law_path", "_law_part_here"] []
  gPu : mg "_law_put" = some (.ref fPu)
  zip : mg "zip" = none
def spPut (K : PySem.W.Frag) (n : Nat) : Sp := fun vs H Q _ => ∃ (v : V) (d : D) (t : Addr) (p : List Nat) (u : V) (e : D) (m : Nat), vs = [v, .ref t, u] ∧ Rdd K H v d ∧ OpN m d ∧ SqT K H t (p.map fun i => V.int (i : Nat)) ∧ PathOf p d ∧ p.length ≤ n ∧ p.length ≤ 1000 ∧ Rdd K H u e ∧
  ∀ r H', Same H H' → Rdd K H' r (putD p d e) → Q r H'
theorem ok_put (T : Lp K mg fIn fPa fdIn fdPa) (Y : Lq K mg fWi fPu fdWi fdPu) (B : Bt mg) : ∀ n, FnOk P w K mg base CX0 (n + 2) fPu fdPu ["_law_root", "_law_path", "_law_part_here"] (spPut K n) := by
  have GI : FnOk P w K mg base CX0 1 fIn fdIn ["_law_part_here"] (spInn K) := ok_inner T B
  have GW : FnOk P w K mg base CX0 1 fWi fdWi ["_law_part_here", "_law_some_here"] (spWith K) := ok_with Y.FWi B Y.zip
  have key : ∀ (n : Nat) (sp : Sp), (∀ vs H Q E, sp vs H Q E → vs.length = 3) → FnOk P w K mg base CX0 (n + 1) fPu fdPu ["_law_root", "_law_path", "_law_part_here"] sp →
      (∀ (v : V) (d : D) (t : Addr) (p : List Nat) (u : V) (e : D) (m : Nat) (H : Hp) (Q : VK) (E : XK), Rdd K H v d → OpN m d → SqT K H t (p.map fun i => V.int (i : Nat)) → PathOf p d → p.length < n → p.length ≤ 1000 → Rdd K H u e → (∀ r H', Same H H' → Rdd K H' r (putD p d e) → Q r H') → sp [v, .ref t, u] H Q E) →
      FnOk P w K mg base CX0 (n + 2) fPu fdPu ["_law_root", "_law_path", "_law_part_here"] (spPut K n) := by
    intro n sp hlen GP hsp
    refine Y.FPu.ok scPut (fun vs H Q E h => ?_) (fun cdv A outer s H vs Q E hr h => ?_)
    · obtain ⟨v, d, t, p, u, e, m, rfl, _⟩ := h
      rfl
    · obtain ⟨v, d, t, p, u, e, m, rfl, hv, ho, ht, hp, ln, l1000, hu, q⟩ := h
      have h1 := hr.mono (by omega : 1 ≤ n + 1)
      refine ⟨_, (pss_cons (ps_if (pt_cmpR (op_eqT0 (Nat.lt_of_le_of_lt (Nat.le_add_right _ 64) hr.units)) (pv 1) (pe_tup pa_nil) (nomark _))
          (pss_one (ps_ret (pv 2)))
          pss_nil)
        (pss_cons (ps_set (i := 3) scPut.nd rfl (Or.inl rfl) (pe_callTy call_list_of (by rfl) B.list (by decide +kernel) (pa_cons (pe_call GI h1 (by rfl) T.gIn T.FIn.kp T.bIn .nil pass0 (pa_cons (pv 0) pa_nil)) pa_nil)))
        (pss_cons (ps_asg (pe_call GP hr (by rfl) Y.gPu Y.FPu.kp Y.bPu .nil pass0 (pa_cons (pe_ix ix_list (pv 3) (pe_ix ix_tup (pv 1) pe_int (fun _ _ => rfl)) (fun _ _ => rfl)) (pa_cons (pe_slice sl_tup (pv 1) (po_some pe_int) po_none) (pa_cons (pv 2) pa_nil)))) (pg_sub (pv 3) (pe_ix ix_tup (pv 1) pe_int (fun _ _ => rfl)) set_list))
        (pss_one (ps_ret (pe_call GW h1 (by rfl) Y.gWi Y.FWi.kp Y.bWi .nil pass0 (pa_cons (pv 0) (pa_cons (pv 3) pa_nil)))))))), ?_⟩
      cases p with
      | nil =>
        refine ⟨.ref t, rfl, (by show 0 ≤ sizeLine; decide), fun p0 n0 => ?_⟩
        have s0 := Same.new (o := .tup []) n0
        refine ⟨t, p0, [], rfl, rfl, (Ex.same s0).tup ht, SqT.of upd_same, _, rfl, ?_⟩
        refine iteT ⟨u, rfl, q u _ s0 (Rdd.ex (.same s0) _ hu)⟩
      | cons i p =>
        obtain ⟨c, hc, hp2⟩ := hp
        cases m with
        | zero => exact ho.elim
        | succ m =>
        have om := OpN.s.mp ho
        have oc := om.2 c (List.mem_of_getElem? hc)
        refine ⟨.ref t, rfl, (by show 0 ≤ sizeLine; decide), fun p0 n0 => ?_⟩
        have s0 := Same.new (o := .tup []) n0
        have h0 : (upd H p0 (.tup [])) p0 = some (.tup []) := upd_same
        generalize upd H p0 (.tup []) = H0 at s0 h0 ⊢
        have ht0 := (Ex.same s0).tup ht
        refine ⟨t, p0, _, rfl, rfl, ht0, SqT.of h0, _, rfl, ?_⟩
        refine iteF ⟨v, rfl, v, d, rfl, Rdd.ex (.same s0) _ hv, om.1.1, fun r H1 s1 rr => ?_⟩
        obtain ⟨a, us, rfl, ha, hus, _⟩ := rr.tupd'
        refine ⟨a, us, rfl, .inr ha, fun l nl => ?_⟩
        have s2 := Same.new (o := .lst us) nl
        have hl2 : (upd H1 l (.lst us)) l = some (.lst us) := upd_same
        generalize upd H1 l (.lst us) = H2 at s2 hl2 ⊢
        have s02 := (s0.trans s1).trans s2
        obtain ⟨x, hx, rx⟩ := hus.at hc
        have ht2 := (Ex.same s02).tup ht
        refine ⟨.ref l, rfl, .ref t, rfl, t, _, 0, _, rfl, rfl, ht2, atI_nat (j := 0) rfl, l, us, (i : Nat), x, rfl, rfl, SqL.of hl2, atI_nat hx, ?_⟩
        refine ⟨.ref t, rfl, 1, rfl, t, _, rfl, ht2, (fun z => ?_), fun p3 n3 => ?_⟩
        · have e1 : HT.sIx ((i :: p).map fun i => V.int (i : Nat)).length 0 (some 1) = 1 := by
            unfold HT.sIx
            simp
          rw [e1] at z
          exact absurd z.1 (by decide)
        · rw [List.map_cons, cut_from1]
          have s3 := Same.new (o := .tup (p.map fun i => V.int (i : Nat))) n3
          have hp3 : (upd H2 p3 (.tup (p.map fun i => V.int (i : Nat)))) p3 = some (.tup (p.map fun i => V.int (i : Nat))) := upd_same
          have nl3 := ne_of_none hl2 n3
          generalize upd H2 p3 (.tup (p.map fun i => V.int (i : Nat))) = H3 at s3 hp3 ⊢
          have s23 := s2.trans s3
          have s03 := s02.trans s3
          rw [List.length_cons] at ln l1000
          refine ⟨u, rfl, hsp x c p3 p u e m H3 _ _ (Rdd.ex (.same s23) _ rx) oc (SqT.of hp3) hp2 (by omega) (by omega) (Rdd.ex (.same s03) _ hu) fun r2 H4 s4 rr2 => ?_⟩
          have s34 := s3.trans s4
          have s04 := s03.trans s4
          have ht4 := (Ex.same s04).tup ht
          have hl4 := s34 _ _ hl2
          have hil := (List.getElem?_eq_some_iff.mp hx).1
          refine ⟨.ref l, rfl, .ref t, rfl, t, _, 0, _, rfl, rfl, ht4, atI_nat (j := 0) rfl, l, us, (i : Nat), i, rfl, rfl, hl4, ?_, ?_⟩
          · unfold ixN
            rw [if_pos (by omega), if_pos (by omega)]
            rfl
          · have x5 : Ex H4 (upd H4 l (.lst (us.set i r2))) := (Off.put (a := l)).ex hl4 upd_same
            have h5 : (upd H4 l (.lst (us.set i r2))) l = some (.lst (us.set i r2)) := upd_same
            have rd4 := Rdd.ex (.same s04) _ hv
            have ru4 := RddAll.ex (.same (s2.trans s34)) _ hus
            have sm5 : ∀ H6, Same (upd H4 l (.lst (us.set i r2))) H6 → Same H H6 := fun H6 s6 b o hb => by
              have e4 : b ≠ l := ne_of_none ((s0.trans s1) _ _ hb) nl
              exact s6 _ _ (by rw [upd_ne e4]; exact s04 _ _ hb)
            generalize upd H4 l (.lst (us.set i r2)) = H5 at x5 h5 sm5 ⊢
            refine ⟨v, rfl, .ref l, rfl, v, d, l, us.set i r2, (inn d).set i (putD p c e), rfl, Rdd.ex x5 _ rd4, om.1.1, isU_inn om.1.1 hc, h5, RddAll.set (Rdd.ex x5 _ rr2) i (RddAll.ex x5 _ ru4), List.length_set, fun r3 H6 s6 rr3 => ?_⟩
            exact q r3 H6 (sm5 H6 s6) (by rw [put_at hc]; exact rr3)
  intro n
  induction n with
  | zero => exact key 0 (fun _ _ _ _ => False) (fun _ _ _ _ h => h.elim) ok_false (fun _ _ _ _ _ _ _ _ _ _ _ _ _ _ h => absurd h (by omega))
  | succ n ih => exact key (n + 1) (spPut K n) (fun vs H Q E h => by obtain ⟨v, d, t, p, u, e, m, rfl, _⟩ := h; rfl) ih (fun v d t p u e m H Q E a b c d' e' f g h => ⟨v, d, t, p, u, e, m, rfl, a, b, c, d', by omega, f, g, h⟩)
end
end Sl

set_option Elab.async false
set_option linter.all false
set_option maxRecDepth 100000
set_option maxHeartbeats 400000
/-! ## Values near open terms -/
namespace Sl
open PySem PySem.Spec PyProof.Rows L2
abbrev Hda (d : D) : Prop := ∀ k, HdN k d
theorem hda_leaf {d : D} (h : d.hd = true) (hi : inn d = []) : Hda d := fun k => by
  cases k with
  | zero => trivial
  | succ k => exact ⟨h, fun x hx => by rw [hi] at hx; cases hx⟩
theorem hda_of {d : D} (h : d.hd = true) (hi : ∀ x ∈ inn d, Hda x) : Hda d := fun k => by
  cases k with
  | zero => trivial
  | succ k => exact ⟨h, fun x hx => hi x hx k⟩
theorem inn_let (b c : D) : inn (.tup [.str "let", b, c]) = b.items.map D.snd ++ [c] := by
  show inn3 "let" b c = _
  unfold inn3
  rw [if_neg ne_wl, if_neg ne_fl]
theorem hda_let {b c : D} (h : b.smalls = true) (h1 : ∀ x ∈ b.items.map D.snd, Hda x) (h2 : Hda c) : Hda (.tup [.str "let", b, c]) := hda_of h fun x hx => by
  rw [inn_let] at hx
  rcases List.mem_append.mp hx with hx | hx
  · exact h1 x hx
  · rw [List.mem_singleton.mp hx]
    exact h2
theorem let_bad {b c : D} (h : b.defs = false) : built (.tup [.str "let", b, c]) = false := by
  show built3 "let" b c = false
  unfold built3
  rw [if_neg ne_wl, if_neg ne_fl, h, Bool.and_false]
theorem two_bad {s : Str} {b : D} (h : ¬ s = "name") : built (.tup [.str s, b]) = false := by
  show (decide (s = "name") && b.isName) = false
  rw [decide_eq_false h, Bool.false_and]
def odd1 : List D := [.non, .bl true, .int 1, .str "x", .lst, .dct, .tup [], .tup [.str "name"], .tup [.str "name", .str "A"], .tup [.str "name", .str "fun"], .lst, .tup [.str "name", .str "x", .str "y"]]
def odd2 : List D := [.tup [.str "word", .str "f"], .tup [.str "word", .str "f", .lst], .tup [.str "word", .str "let", .tup []], .tup [.str "word", .str "f", .tup [.non]], .tup [.str "name", .int 1]]
def odd3 (e : D) : List D := [.tup [.str "word", .str "f", .tup [e, e, e, e]], .tup [.str "fun", .str "in", e], .tup [.str "fun", .str "x"], .tup [.str "let", .tup [], e], .tup [.str "let", e]]
def odd4 (e : D) : List D := [.tup [.str "let", .tup [.tup [.str "x", e], .tup [.str "x", e]], e], .tup [.str "let", .lst, e], .tup [.str "fun", .str "x", e, .tup []]]
def odd5 (e : D) : List D := [.tup [.str "let", .tup [.tup [.str "x"]], e], .tup [.str "let", .tup [.tup [.str "x", e, .tup []]], e], .tup [.str "let", .tup [.tup [.str "X", e]], e]]
def odd6 (e : D) : List D := [.tup [.str "let", .tup [.lst], e], .tup [.str "let", .dct, e], .lst, .tup [.str "var", .str "x"], .tup [e]]
def Odd (d : D) : Prop := Bad 1 d ∧ Hda d
theorem hda_non : Hda .non := hda_leaf rfl rfl
theorem hda_str (x : Str) : Hda (.str x) := hda_leaf rfl rfl
theorem sm1 {x : Str} (h : x.length ≤ 1000) : (D.str x).smalls = true := decide_eq_true h
theorem small_x : (D.str "x").small = true := by decide +kernel
theorem small_X : (D.str "X").small = true := by decide +kernel
theorem odd_1 : ∀ d ∈ odd1, Odd d := by
  intro d hd
  simp only [odd1, List.mem_cons, List.not_mem_nil, or_false] at hd
  rcases hd with rfl | rfl | rfl | rfl | rfl | rfl | rfl | rfl | rfl | rfl | rfl | rfl
  · exact ⟨.inl rfl, hda_non⟩
  · exact ⟨.inl rfl, hda_leaf rfl rfl⟩
  · exact ⟨.inl rfl, hda_leaf rfl rfl⟩
  · exact ⟨.inl rfl, hda_str _⟩
  · exact ⟨.inl rfl, hda_leaf rfl rfl⟩
  · exact ⟨.inl rfl, hda_leaf rfl rfl⟩
  · exact ⟨.inl rfl, hda_leaf rfl rfl⟩
  · exact ⟨.inl rfl, hda_leaf rfl rfl⟩
  · exact ⟨.inl (by decide +kernel), hda_leaf (by decide +kernel) rfl⟩
  · exact ⟨.inl (by decide +kernel), hda_leaf (by decide +kernel) rfl⟩
  · exact ⟨.inl rfl, hda_leaf rfl rfl⟩
  · refine ⟨.inl (by decide +kernel), hda_of (by decide +kernel) fun x hx => ?_⟩
    have e : inn (.tup [.str "name", .str "x", .str "y"]) = [.str "y"] := by
      show inn3 "name" _ _ = _
      unfold inn3
      rw [if_neg (by decide +kernel), if_neg (by decide +kernel)]
      rfl
    rw [e] at hx
    rw [List.mem_singleton.mp hx]
    exact hda_str _
theorem inn_word (b c : D) : inn (.tup [.str "word", b, c]) = c.items := by
  show inn3 "word" b c = _
  unfold inn3
  rw [if_pos rfl]
theorem odd_2 : ∀ d ∈ odd2, Odd d := by
  intro d hd
  simp only [odd2, List.mem_cons, List.not_mem_nil, or_false] at hd
  rcases hd with rfl | rfl | rfl | rfl | rfl
  · exact ⟨.inl (two_bad (by decide +kernel)), hda_leaf (by decide +kernel) rfl⟩
  · refine ⟨.inl (by decide +kernel), hda_leaf (by decide +kernel) ?_⟩
    rw [inn_word]
    rfl
  · refine ⟨.inl (by decide +kernel), hda_leaf (by decide +kernel) ?_⟩
    rw [inn_word]
    rfl
  · refine ⟨.inr ⟨.non, ?_, rfl⟩, hda_of (by decide +kernel) fun x hx => ?_⟩
    · rw [inn_word]
      exact List.mem_singleton.mpr rfl
    · rw [inn_word] at hx
      rw [List.mem_singleton.mp hx]
      exact hda_non
  · exact ⟨.inl (by decide +kernel), hda_leaf rfl rfl⟩
theorem small_of {e : D} (hb : built e = true) : e.small = true ∧ ∃ l, e = .tup l := by
  cases e with
  | tup l => exact ⟨rfl, l, rfl⟩
  | _ => cases hb
section
variable {e : D} (he : Hda e) (hb : built e = true)
include he hb
theorem odd_3 : ∀ d ∈ odd3 e, Odd d := by
  intro d hd
  simp only [odd3, List.mem_cons, List.not_mem_nil, or_false] at hd
  rcases hd with rfl | rfl | rfl | rfl | rfl
  · refine ⟨.inl ?_, hda_of (show (D.str "f").smalls = true from by decide +kernel) fun x hx => ?_⟩
    · show built (mkW "f" [e, e, e, e]) = false
      rw [built_W]
      exact Bool.and_false _
    · rw [inn_word] at hx
      have : x = e := by
        have hx' : x ∈ [e, e, e, e] := hx
        simpa using hx'
      rw [this]
      exact he
  · refine ⟨.inl ?_, hda_of (show (D.str "in").smalls = true from by decide +kernel) fun x hx => ?_⟩
    · show built (mkF "in" e) = false
      rw [built_F]
      decide +kernel
    · have hx' : x ∈ inn (mkF "in" e) := hx
      rw [inn_F] at hx'
      rw [List.mem_singleton.mp hx']
      exact he
  · exact ⟨.inl (two_bad (by decide +kernel)), hda_leaf (by decide +kernel) rfl⟩
  · exact ⟨.inl (let_bad rfl), hda_let rfl (fun x hx => by cases hx) he⟩
  · obtain ⟨h1, l, rfl⟩ := small_of hb
    exact ⟨.inl (two_bad (by decide +kernel)), hda_leaf rfl rfl⟩
theorem odd_4 : ∀ d ∈ odd4 e, Odd d := by
  intro d hd
  simp only [odd4, List.mem_cons, List.not_mem_nil, or_false] at hd
  rcases hd with rfl | rfl | rfl
  · refine ⟨.inl (let_bad ?_), hda_let ?_ (fun x hx => ?_) he⟩
    · show (decide (1 ≤ 2 ∧ 2 ≤ 100) && ([D.tup [.str "x", e], .tup [.str "x", e]].all D.pair && decide (["x", "x"] : List Str).Nodup)) = false
      rw [show decide (["x", "x"] : List Str).Nodup = false from by decide +kernel, Bool.and_false, Bool.and_false]
    · show (decide (2 ≤ 1000) && ((D.str "x").small && ((D.str "x").small && true))) = true
      rw [small_x]
      rfl
    · have hx' : x ∈ [e, e] := hx
      have : x = e := by simpa using hx'
      rw [this]
      exact he
  · exact ⟨.inl (let_bad rfl), hda_let rfl (fun x hx => by cases hx) he⟩
  · exact ⟨.inl rfl, hda_leaf rfl rfl⟩
theorem odd_5 : ∀ d ∈ odd5 e, Odd d := by
  intro d hd
  simp only [odd5, List.mem_cons, List.not_mem_nil, or_false] at hd
  rcases hd with rfl | rfl | rfl
  · refine ⟨.inl (let_bad rfl), hda_let rfl (fun x hx => ?_) he⟩
    have hx' : x ∈ [D.non] := hx
    rw [List.mem_singleton.mp hx']
    exact hda_non
  · refine ⟨.inl (let_bad rfl), hda_let rfl (fun x hx => ?_) he⟩
    have hx' : x ∈ [D.non] := hx
    rw [List.mem_singleton.mp hx']
    exact hda_non
  · refine ⟨.inl (let_bad ?_), hda_let ?_ (fun x hx => ?_) he⟩
    · show (decide (1 ≤ 1 ∧ 1 ≤ 100) && ((nmOk "X" && true) && _)) = false
      rw [show nmOk "X" = false from by decide +kernel]
      rfl
    · show (decide (1 ≤ 1000) && ((D.str "X").small && true)) = true
      rw [small_X]
      rfl
    · have hx' : x ∈ [e] := hx
      rw [List.mem_singleton.mp hx']
      exact he
theorem odd_6 : ∀ d ∈ odd6 e, Odd d := by
  intro d hd
  simp only [odd6, List.mem_cons, List.not_mem_nil, or_false] at hd
  rcases hd with rfl | rfl | rfl | rfl | rfl
  · refine ⟨.inl (let_bad rfl), hda_let rfl (fun x hx => ?_) he⟩
    have hx' : x ∈ [D.non] := hx
    rw [List.mem_singleton.mp hx']
    exact hda_non
  · exact ⟨.inl (let_bad rfl), hda_let rfl (fun x hx => by cases hx) he⟩
  · exact ⟨.inl rfl, hda_leaf rfl rfl⟩
  · exact ⟨.inl (two_bad (by decide +kernel)), hda_leaf (by decide +kernel) rfl⟩
  · obtain ⟨_, l, rfl⟩ := small_of hb
    exact ⟨.inl rfl, hda_leaf rfl rfl⟩
end
end Sl

set_option Elab.async false
set_option linter.all false
set_option maxRecDepth 100000
set_option maxHeartbeats 400000
/-! ### more of displays -/
namespace Sl
open PySem PySem.Spec PyProof.Rows L2
theorem gName_at {i : Nat} {v : V} {σ : L2.St} {H : Hp} {Q : L2.St → Hp → Prop} : gName i v σ H Q = Q (σ.set i (some v)) H := rfl
section
variable {K : PySem.W.Frag} {σ : L2.St} {G : Hp}
theorem RddAll.rep' {H : Hp} {vs : List V} {ds : List D} (h : RddAll K H vs ds) : ∀ k : Nat, RddAll K H (List.replicate k vs).flatten (List.replicate k ds).flatten
  | 0 => .nil
  | k + 1 => by
    rw [List.replicate_succ, List.replicate_succ, List.flatten_cons, List.flatten_cons]
    exact h.app' (RddAll.rep' h k)
theorem gv_rep' {ta tk : TE} {ds : List D} {k : Int} (h1 : Gv K σ G ta (.tup ds)) (h2 : Gv K σ G tk (.int k)) (hne : ds ≠ []) (k0 : 2 ≤ k) (k1 : k ≤ 1000) (hz : ds.length ≤ 1000) (hk : k.toNat * ds.length ≤ 100000) : Gv K σ G (tOp (rRepA K) ta tk) (.tup (List.replicate k.toNat ds).flatten) := fun H Q s q =>
  h1 H _ s fun v H1 s1 r1 => h2 H1 _ (s.trans s1) fun u H2 s2 r2 => by
    cases r2
    have r1' := Rdd.ex (.same s2) _ r1
    cases r1' with
    | @tup a xs _ hs ha hl =>
      have e := ha.length
      refine ⟨_, k, _, rfl, rfl, hs, fun z => hne ?_, by omega, k1, by omega, fun z => absurd z (by omega), fun _ p np => ?_⟩
      · rw [z] at e
        exact List.eq_nil_of_length_eq_zero e.symm
      · have sp := Same.new (o := .tup (List.replicate k.toNat xs).flatten) np
        refine q _ _ ((s1.trans s2).trans sp) (.tup (SqT.of upd_same) ((RddAll.ex (.same sp) _ ha).rep' k.toNat) ?_)
        rw [PyProof.Rows.lm_len_rep_flat]
        exact hk
theorem gv_list' {te : TE} {ds : List D} (h1 : Gv K σ G te (.tup ds)) : Gv K σ G (tCB (fun xs H Q => ∃ p ys, xs = [.ref p] ∧ (SqL K H p ys ∨ SqT K H p ys) ∧ ∀ l, H l = none → Q (.ref l) (upd H l (.lst ys))) (tCons te tNil)) .lst := fun H Q s q =>
  h1 H _ s fun v H1 s1 r1 => by
    cases r1 with
    | tup hs ha _ => exact ⟨_, _, rfl, .inr hs, fun l nl => q _ _ (s1.trans (Same.new nl)) (.lst (.base (.lst upd_same)))⟩
/-- {"x": value} -/
theorem gv_disp1 {x : Str} {tv : TE} {d : D} (h : Gv K σ G tv d) : Gv K σ G (tDisp [(tC (.str x), tv)]) .dct := fun H Q s q p np => by
  have s0 := Same.new (o := .dK []) np
  refine h _ _ (s.trans s0) fun v H1 s1 r1 => ⟨s1 _ _ upd_same, [(.inr x, v)], rfl, Nat.le_of_ble_eq_true rfl, q _ _ (fun b o hb => ?_) (.dct (.base (.dK upd_same)))⟩
  have e : b ≠ p := ne_of_none hb np
  rw [upd_ne e]
  exact s1 _ _ (by rw [upd_ne e]; exact hb)
/-- l = l + [..] -/
theorem ts_cat {i : Nat} {ta : TA} {es ds : List D} {l : Addr} {vs : List V} {H : Hp} {rest : TS} {D0 : Ends} (hv : σ[i]? = some (some (.ref l))) (hl : H l = some (.lst vs)) (r : RddAll K H vs ds) (h : Gva K σ H ta es) (hd : ds.length ≤ 1000) (he : es.length ≤ 1000)
    (q : ∀ p ws H', H p = none → Same H H' → H' p = some (.lst ws) → RddAll K H' ws (ds ++ es) → rest D0 (σ.set i (some (.ref p))) H') : tSeq (tAsg (tOp rCat (tVar i) (tLst ta)) (gName i)) rest D0 σ H := by
  show ∃ v, σ[i]? = some (some v) ∧ tLst ta σ H fun y H1 => rCat v y H1 fun x H2 => rest D0 (σ.set i (some x)) H2
  refine ⟨_, hv, lst_gv h (Same.refl H) (by omega) fun p us H1 n1 s1 h1 r1 => ⟨l, p, vs, us, rfl, rfl, s1 _ _ hl, h1, ?_, fun p2 n2 => ?_⟩⟩
  · have e1 := r.length
    have e2 := r1.length
    rw [sizeLine_eq]
    omega
  · have s2 := Same.new (o := .lst (vs ++ us)) n2
    have s12 := s1.trans s2
    exact q p2 _ _ (s1.fr n2) s12 upd_same ((RddAll.ex (.same s12) _ r).app' (RddAll.ex (.same s2) _ r1))
/-- l = [..] -/
theorem ts_lst {i : Nat} {ta : TA} {es : List D} {H : Hp} {rest : TS} {D0 : Ends} (h : Gva K σ H ta es) (he : es.length ≤ 1000)
    (q : ∀ p ws H', H p = none → Same H H' → H' p = some (.lst ws) → RddAll K H' ws es → rest D0 (σ.set i (some (.ref p))) H') : tSeq (tAsg (tLst ta) (gName i)) rest D0 σ H := by
  show tLst ta σ H fun x H1 => rest D0 (σ.set i (some x)) H1
  exact lst_gv h (Same.refl H) (by omega) fun p us H1 n1 s1 h1 r1 => q p us H1 n1 s1 h1 r1
end
end Sl

set_option Elab.async false
set_option linter.all false
set_option maxRecDepth 100000
set_option maxHeartbeats 400000
namespace Sl
open PySem PySem.Spec PyProof.Rows L2
abbrev sWrong : Stmt := topT 41
theorem scWrong : FnScope ["_law_stream_here", "_law_part_here", "_law_path", "_law_inner_here", "_law_odd"] ["_law_stream_here", "_law_part_here"] (defScope sWrong) := ⟨rfl, rfl, rfl, by decide +kernel, rfl, by decide +kernel, by decide +kernel⟩
section
variable {P : Program} {w : World} {K : PySem.W.Frag} {mg : Str → Option Value} {base : Heap} {fWi fPu fIn fPa fPs fWr : Addr} {fdWi fdPu fdIn fdPa fdPs fdWr : FuncData} {fSt fDr fPk fMx : Addr} {fdSt fdDr fdPk fdMx : FuncData}
structure Lps (K : PySem.W.Frag) (mg : Str → Option Value) (fPs fWr : Addr) (fdPs fdWr : FuncData) : Prop where
  FPs : Fun K "_law_paths" "_law_paths" sPaths fPs fdPs
  bPs : Binds K fdPs ["_law_root"] []
  gPs : mg "_law_paths" = some (.ref fPs)
  FWr : Fun K "_law_wrong" "_law_wrong" sWrong fWr fdWr
  bWr : Binds K fdWr ["_law_stream_here", "_law_part_here"] []
  gWr : mg "_law_wrong" = some (.ref fWr)
def spWrong (K : PySem.W.Frag) : Sp := fun vs H Q _ => ∃ (a : Addr) (v : V) (d : D) (n : Nat), vs = [V.ref a, v] ∧ Stm a H ∧ Rdd K H v d ∧ OpN n d ∧ n ≤ 9 ∧ cnt n d ≤ 100000 ∧
  ∀ r e m H', Jst a H H' → Rdd K H' r e → m ≤ 10 → Bad m e → Hda e → Q r H'
theorem ok_wrong (X : Lps K mg fPs fWr fdPs fdWr) (T : Lp K mg fIn fPa fdIn fdPa) (Y : Lq K mg fWi fPu fdWi fdPu) (L : Lw K mg fSt fDr fPk fMx fdSt fdDr fdPk fdMx) (B : Bt mg) : FnOk P w K mg base CX0 12 fWr fdWr ["_law_stream_here", "_law_part_here"] (spWrong K) := by
  have GP : FnOk P w K mg base CX0 2 fPk fdPk ["_law_stream_here", "_law_items"] (spPick K) := g_pick L B
  have GH : FnOk P w K mg base CX0 3 fPs fdPs ["_law_root"] (spPaths K) := ok_paths X.FPs T B
  have GA : FnOk P w K mg base CX0 2 fPa fdPa ["_law_root", "_law_path"] (spPart K) := ok_part T B
  have GU : FnOk P w K mg base CX0 11 fPu fdPu ["_law_root", "_law_path", "_law_part_here"] (spPut K 9) := ok_put T Y B 9
  refine X.FWr.ok scWrong (fun vs H Q E h => ?_) (fun cdv A outer s H vs Q E hr h => ?_)
  · obtain ⟨a, v, d, n, rfl, _⟩ := h
    rfl
  · obtain ⟨a, v, d, n, rfl, hs, hv, ho, hn, hc, q⟩ := h
    have h2 := hr.mono (by decide : 2 ≤ 11)
    have h3 := hr.mono (by decide : 3 ≤ 11)
    have sl := sizeLine_eq
    refine ⟨_, (pss_cons (ps_set (i := 2) scWrong.nd rfl (Or.inl rfl) (pe_call GP h2 (by rfl) L.gPk L.FPk.kp L.bPk .nil pass0 (pa_cons (pv 0) (pa_cons (pe_call GH h3 (by rfl) X.gPs X.FPs.kp X.bPs .nil pass0 (pa_cons (pv 1) pa_nil)) pa_nil))))
      (pss_cons (ps_set (i := 3) scWrong.nd rfl (Or.inl rfl) (pe_call GA h2 (by rfl) T.gPa T.FPa.kp T.bPa .nil pass0 (pa_cons (pv 1) (pa_cons (pv 2) pa_nil))))
      (pss_cons (ps_set (i := 4) scWrong.nd rfl (Or.inl rfl) (pe_lst (pa_cons pe_non (pa_cons pe_bl (pa_cons pe_int (pa_cons pe_str (pa_cons (pe_lst pa_nil) (pa_cons pe_dnewK (pa_cons (pe_tup pa_nil) (pa_cons (pe_tup (pa_cons pe_str pa_nil)) (pa_cons (pe_tup (pa_cons pe_str (pa_cons pe_str pa_nil))) (pa_cons (pe_tup (pa_cons pe_str (pa_cons pe_str pa_nil))) (pa_cons (pe_lst (pa_cons pe_str (pa_cons pe_str pa_nil))) (pa_cons (pe_tup (pa_cons pe_str (pa_cons pe_str (pa_cons pe_str pa_nil)))) pa_nil))))))))))))))
      (pss_cons (ps_set (i := 4) scWrong.nd rfl (Or.inl rfl) (pe_op op_cat (pv 4) (pe_lst (pa_cons (pe_tup (pa_cons pe_str (pa_cons pe_str pa_nil))) (pa_cons (pe_tup (pa_cons pe_str (pa_cons pe_str (pa_cons (pe_lst pa_nil) pa_nil)))) (pa_cons (pe_tup (pa_cons pe_str (pa_cons pe_str (pa_cons (pe_tup pa_nil) pa_nil)))) (pa_cons (pe_tup (pa_cons pe_str (pa_cons pe_str (pa_cons (pe_tup (pa_cons pe_non pa_nil)) pa_nil)))) (pa_cons (pe_tup (pa_cons pe_str (pa_cons pe_int pa_nil))) pa_nil))))))))
      (pss_cons (ps_set (i := 4) scWrong.nd rfl (Or.inl rfl) (pe_op op_cat (pv 4) (pe_lst (pa_cons (pe_tup (pa_cons pe_str (pa_cons pe_str (pa_cons (pe_op op_repTA (pe_tup (pa_cons (pv 3) pa_nil)) pe_int) pa_nil)))) (pa_cons (pe_tup (pa_cons pe_str (pa_cons pe_str (pa_cons (pv 3) pa_nil)))) (pa_cons (pe_tup (pa_cons pe_str (pa_cons pe_str pa_nil))) (pa_cons (pe_tup (pa_cons pe_str (pa_cons (pe_tup pa_nil) (pa_cons (pv 3) pa_nil)))) (pa_cons (pe_tup (pa_cons pe_str (pa_cons (pv 3) pa_nil))) pa_nil))))))))
      (pss_cons (ps_set (i := 4) scWrong.nd rfl (Or.inl rfl) (pe_op op_cat (pv 4) (pe_lst (pa_cons (pe_tup (pa_cons pe_str (pa_cons (pe_tup (pa_cons (pe_tup (pa_cons pe_str (pa_cons (pv 3) pa_nil))) (pa_cons (pe_tup (pa_cons pe_str (pa_cons (pv 3) pa_nil))) pa_nil))) (pa_cons (pv 3) pa_nil)))) (pa_cons (pe_tup (pa_cons pe_str (pa_cons (pe_lst (pa_cons (pe_tup (pa_cons pe_str (pa_cons (pv 3) pa_nil))) pa_nil)) (pa_cons (pv 3) pa_nil)))) (pa_cons (pe_tup (pa_cons pe_str (pa_cons pe_str (pa_cons (pv 3) (pa_cons (pe_tup pa_nil) pa_nil))))) pa_nil))))))
      (pss_cons (ps_set (i := 4) scWrong.nd rfl (Or.inl rfl) (pe_op op_cat (pv 4) (pe_lst (pa_cons (pe_tup (pa_cons pe_str (pa_cons (pe_tup (pa_cons (pe_tup (pa_cons pe_str pa_nil)) pa_nil)) (pa_cons (pv 3) pa_nil)))) (pa_cons (pe_tup (pa_cons pe_str (pa_cons (pe_tup (pa_cons (pe_tup (pa_cons pe_str (pa_cons (pv 3) (pa_cons (pe_tup pa_nil) pa_nil)))) pa_nil)) (pa_cons (pv 3) pa_nil)))) (pa_cons (pe_tup (pa_cons pe_str (pa_cons (pe_tup (pa_cons (pe_tup (pa_cons pe_str (pa_cons (pv 3) pa_nil))) pa_nil)) (pa_cons (pv 3) pa_nil)))) pa_nil))))))
      (pss_cons (ps_set (i := 4) scWrong.nd rfl (Or.inl rfl) (pe_op op_cat (pv 4) (pe_lst (pa_cons (pe_tup (pa_cons pe_str (pa_cons (pe_tup (pa_cons (pe_lst (pa_cons pe_str (pa_cons (pv 3) pa_nil))) pa_nil)) (pa_cons (pv 3) pa_nil)))) (pa_cons (pe_tup (pa_cons pe_str (pa_cons (pe_disp (pps_cons pe_str (pv 3) pps_nil) rfl rfl (by simp) (by decide)) (pa_cons (pv 3) pa_nil)))) (pa_cons (pe_callTy call_list_of (by rfl) B.list (by decide +kernel) (pa_cons (pv 3) pa_nil)) (pa_cons (pe_tup (pa_cons pe_str (pa_cons pe_str pa_nil))) (pa_cons (pe_tup (pa_cons (pv 3) pa_nil)) pa_nil))))))))
      (pss_one (ps_ret (pe_call GU hr (by rfl) Y.gPu Y.FPu.kp Y.bPu .nil pass0 (pa_cons (pv 1) (pa_cons (pv 2) (pa_cons (pe_call GP h2 (by rfl) L.gPk L.FPk.kp L.bPk .nil pass0 (pa_cons (pv 0) (pa_cons (pv 4) pa_nil))) pa_nil)))))))))))))), ?_⟩
    refine ⟨.ref a, rfl, v, rfl, v, d, n, rfl, hv, ho, hn, fun p0 zs ps H1 s1 n0 h0 rz pok lps => ?_⟩
    have hs1 := hs.same s1
    have cn : 1 ≤ cnt n d := by
      cases n with
      | zero => exact ho.elim
      | succ n => show 1 ≤ 1 + _; omega
    have lz := rz.length
    rw [List.length_map] at lz
    refine ⟨a, p0, zs, rfl, hs1, hs.ne n0, SqL.of h0, by omega, by omega, fun i x H2 hx o2 hs2 => ?_⟩
    obtain ⟨dx, hdx, rx⟩ := rz.get hx
    rw [List.getElem?_map] at hdx
    obtain ⟨pp, hpp, rfl⟩ := Option.map_eq_some_iff.mp hdx
    have ppo := pok pp (List.mem_of_getElem? hpp)
    have j12 : Jst a H1 H2 := ⟨hs1, hs2, o2⟩
    have j02 : Jst a H H2 := (Jst.same hs s1).trans j12
    have x02 := (jr_st a).ex j02
    have rx2 := Rdd.ex ((jr_st a).ex j12) _ rx
    obtain ⟨t, rfl, ht⟩ := pd_tup rx2
    have hv2 := Rdd.ex x02 _ hv
    refine ⟨v, rfl, .ref t, rfl, v, d, t, pp, n, rfl, hv2, ho, ht, ppo, fun r H3 s3 rr => ?_⟩
    have hs3 := hs2.same s3
    have so := sub_ok ppo ho
    have eb : built (subD pp d) = true := by
      have h := so.1
      cases e : n - pp.length with
      | zero => rw [e] at h; exact h.elim
      | succ k => rw [e] at h; exact h.1.1
    have eh : Hda (subD pp d) := so.1.hd
    generalize hee : subD pp d = ee at rr eb eh
    dsimp only
    rw [gName_at]
    obtain ⟨_, el, eet⟩ := small_of eb
    have o1 := odd_1
    have o2' := odd_2
    have o3 := odd_3 eh eb
    have o4 := odd_4 eh eb
    have o5 := odd_5 eh eb
    have o6 := odd_6 eh eb
    refine ts_lst (K := K) (es := odd1) (gva_cons gv_non (gva_cons (gv_bl true) (gva_cons (gv_int 1) (gva_cons (gv_str "x") (gva_cons (gv_lst gva_nil) (gva_cons (gv_dict fun _ _ h => h) (gva_cons (gv_tup gva_nil) (gva_cons (gv_tup (gva_cons (gv_str "name") gva_nil)) (gva_cons (gv_tup (gva_cons (gv_str "name") (gva_cons (gv_str "A") gva_nil))) (gva_cons (gv_tup (gva_cons (gv_str "name") (gva_cons (gv_str "fun") gva_nil))) (gva_cons (gv_lst (gva_cons (gv_str "name") (gva_cons (gv_str "x") gva_nil))) (gva_cons (gv_tup (gva_cons (gv_str "name") (gva_cons (gv_str "x") (gva_cons (gv_str "y") gva_nil)))) gva_nil)))))))))))) (Nat.le_of_ble_eq_true rfl) fun p4 w4 H4 n4 s4 h4 r4 => ?_
    have rr4 := Rdd.ex (.same s4) _ rr
    refine ts_cat (K := K) (es := odd2) rfl h4 r4 (gva_cons (gv_tup (gva_cons (gv_str "word") (gva_cons (gv_str "f") gva_nil)) (Nat.le_of_ble_eq_true rfl)) (gva_cons (gv_tup (gva_cons (gv_str "word") (gva_cons (gv_str "f") (gva_cons (gv_lst gva_nil (Nat.le_of_ble_eq_true rfl)) gva_nil))) (Nat.le_of_ble_eq_true rfl)) (gva_cons (gv_tup (gva_cons (gv_str "word") (gva_cons (gv_str "let") (gva_cons (gv_tup gva_nil (Nat.le_of_ble_eq_true rfl)) gva_nil))) (Nat.le_of_ble_eq_true rfl)) (gva_cons (gv_tup (gva_cons (gv_str "word") (gva_cons (gv_str "f") (gva_cons (gv_tup (gva_cons gv_non gva_nil) (Nat.le_of_ble_eq_true rfl)) gva_nil))) (Nat.le_of_ble_eq_true rfl)) (gva_cons (gv_tup (gva_cons (gv_str "name") (gva_cons (gv_int 1) gva_nil)) (Nat.le_of_ble_eq_true rfl)) gva_nil))))) (Nat.le_of_ble_eq_true rfl) (Nat.le_of_ble_eq_true rfl) fun p5 w5 H5 n5 s5 h5 r5 => ?_
    have rr5 := Rdd.ex (.same s5) _ rr4
    refine ts_cat (K := K) (es := odd3 ee) rfl h5 r5 (gva_cons (gv_tup (gva_cons (gv_str "word") (gva_cons (gv_str "f") (gva_cons (gv_rep' (gv_tup (gva_cons (gv_var (i := 3) rfl rr5) gva_nil) (Nat.le_of_ble_eq_true rfl)) (gv_int 4) (by simp) (by decide) (by decide) (Nat.le_of_ble_eq_true rfl) (Nat.le_of_ble_eq_true rfl)) gva_nil))) (Nat.le_of_ble_eq_true rfl)) (gva_cons (gv_tup (gva_cons (gv_str "fun") (gva_cons (gv_str "in") (gva_cons (gv_var (i := 3) rfl rr5) gva_nil))) (Nat.le_of_ble_eq_true rfl)) (gva_cons (gv_tup (gva_cons (gv_str "fun") (gva_cons (gv_str "x") gva_nil)) (Nat.le_of_ble_eq_true rfl)) (gva_cons (gv_tup (gva_cons (gv_str "let") (gva_cons (gv_tup gva_nil (Nat.le_of_ble_eq_true rfl)) (gva_cons (gv_var (i := 3) rfl rr5) gva_nil))) (Nat.le_of_ble_eq_true rfl)) (gva_cons (gv_tup (gva_cons (gv_str "let") (gva_cons (gv_var (i := 3) rfl rr5) gva_nil)) (Nat.le_of_ble_eq_true rfl)) gva_nil))))) (Nat.le_of_ble_eq_true rfl) (Nat.le_of_ble_eq_true rfl) fun p6 w6 H6 n6 s6 h6 r6 => ?_
    have rr6 := Rdd.ex (.same s6) _ rr5
    refine ts_cat (K := K) (es := odd4 ee) rfl h6 r6 (gva_cons (gv_tup (gva_cons (gv_str "let") (gva_cons (gv_tup (gva_cons (gv_tup (gva_cons (gv_str "x") (gva_cons (gv_var (i := 3) rfl rr6) gva_nil)) (Nat.le_of_ble_eq_true rfl)) (gva_cons (gv_tup (gva_cons (gv_str "x") (gva_cons (gv_var (i := 3) rfl rr6) gva_nil)) (Nat.le_of_ble_eq_true rfl)) gva_nil)) (Nat.le_of_ble_eq_true rfl)) (gva_cons (gv_var (i := 3) rfl rr6) gva_nil))) (Nat.le_of_ble_eq_true rfl)) (gva_cons (gv_tup (gva_cons (gv_str "let") (gva_cons (gv_lst (gva_cons (gv_tup (gva_cons (gv_str "x") (gva_cons (gv_var (i := 3) rfl rr6) gva_nil)) (Nat.le_of_ble_eq_true rfl)) gva_nil) (Nat.le_of_ble_eq_true rfl)) (gva_cons (gv_var (i := 3) rfl rr6) gva_nil))) (Nat.le_of_ble_eq_true rfl)) (gva_cons (gv_tup (gva_cons (gv_str "fun") (gva_cons (gv_str "x") (gva_cons (gv_var (i := 3) rfl rr6) (gva_cons (gv_tup gva_nil (Nat.le_of_ble_eq_true rfl)) gva_nil)))) (Nat.le_of_ble_eq_true rfl)) gva_nil))) (Nat.le_of_ble_eq_true rfl) (Nat.le_of_ble_eq_true rfl) fun p7 w7 H7 n7 s7 h7 r7 => ?_
    have rr7 := Rdd.ex (.same s7) _ rr6
    refine ts_cat (K := K) (es := odd5 ee) rfl h7 r7 (gva_cons (gv_tup (gva_cons (gv_str "let") (gva_cons (gv_tup (gva_cons (gv_tup (gva_cons (gv_str "x") gva_nil) (Nat.le_of_ble_eq_true rfl)) gva_nil) (Nat.le_of_ble_eq_true rfl)) (gva_cons (gv_var (i := 3) rfl rr7) gva_nil))) (Nat.le_of_ble_eq_true rfl)) (gva_cons (gv_tup (gva_cons (gv_str "let") (gva_cons (gv_tup (gva_cons (gv_tup (gva_cons (gv_str "x") (gva_cons (gv_var (i := 3) rfl rr7) (gva_cons (gv_tup gva_nil (Nat.le_of_ble_eq_true rfl)) gva_nil))) (Nat.le_of_ble_eq_true rfl)) gva_nil) (Nat.le_of_ble_eq_true rfl)) (gva_cons (gv_var (i := 3) rfl rr7) gva_nil))) (Nat.le_of_ble_eq_true rfl)) (gva_cons (gv_tup (gva_cons (gv_str "let") (gva_cons (gv_tup (gva_cons (gv_tup (gva_cons (gv_str "X") (gva_cons (gv_var (i := 3) rfl rr7) gva_nil)) (Nat.le_of_ble_eq_true rfl)) gva_nil) (Nat.le_of_ble_eq_true rfl)) (gva_cons (gv_var (i := 3) rfl rr7) gva_nil))) (Nat.le_of_ble_eq_true rfl)) gva_nil))) (Nat.le_of_ble_eq_true rfl) (Nat.le_of_ble_eq_true rfl) fun p8 w8 H8 n8 s8 h8 r8 => ?_
    have rr8 := Rdd.ex (.same s8) _ rr7
    refine ts_cat (K := K) (es := odd6 ee) rfl h8 r8 (gva_cons (gv_tup (gva_cons (gv_str "let") (gva_cons (gv_tup (gva_cons (gv_lst (gva_cons (gv_str "x") (gva_cons (gv_var (i := 3) rfl rr8) gva_nil)) (Nat.le_of_ble_eq_true rfl)) gva_nil) (Nat.le_of_ble_eq_true rfl)) (gva_cons (gv_var (i := 3) rfl rr8) gva_nil))) (Nat.le_of_ble_eq_true rfl)) (gva_cons (gv_tup (gva_cons (gv_str "let") (gva_cons (gv_disp1 (gv_var (i := 3) rfl rr8)) (gva_cons (gv_var (i := 3) rfl rr8) gva_nil))) (Nat.le_of_ble_eq_true rfl)) (gva_cons (gv_list' (gv_var (i := 3) rfl (eet ▸ rr8))) (gva_cons (gv_tup (gva_cons (gv_str "var") (gva_cons (gv_str "x") gva_nil)) (Nat.le_of_ble_eq_true rfl)) (gva_cons (gv_tup (gva_cons (gv_var (i := 3) rfl rr8) gva_nil) (Nat.le_of_ble_eq_true rfl)) gva_nil))))) (Nat.le_of_ble_eq_true rfl) (Nat.le_of_ble_eq_true rfl) fun p9 w9 H9 n9 s9 h9 r9 => ?_
    have rr9 := Rdd.ex (.same s9) _ rr8
    have s39 := ((((s4.trans s5).trans s6).trans s7).trans s8).trans s9
    have hs9 := hs3.same s39
    have ht9 := (Ex.same (s3.trans s39)).tup ht
    have hv9 := Rdd.ex (.same (s3.trans s39)) _ hv2
    have hs8 := hs3.same ((((s4.trans s5).trans s6).trans s7).trans s8)
    have l9 := r9.length
    have od : ∀ z ∈ odd1 ++ odd2 ++ odd3 ee ++ odd4 ee ++ odd5 ee ++ odd6 ee, Odd z := fun z hz => by
      rcases List.mem_append.mp hz with hz | hz
      · rcases List.mem_append.mp hz with hz | hz
        · rcases List.mem_append.mp hz with hz | hz
          · rcases List.mem_append.mp hz with hz | hz
            · rcases List.mem_append.mp hz with hz | hz
              · exact o1 z hz
              · exact o2' z hz
            · exact o3 z hz
          · exact o4 z hz
        · exact o5 z hz
      · exact o6 z hz
    have l33 : w9.length = 33 := l9
    refine ⟨v, rfl, .ref t, rfl, .ref a, rfl, .ref p9, rfl, a, p9, w9, rfl, hs9, hs8.ne n9, SqL.of h9, by omega, by omega, fun i x H10 hx o10 hs10 => ?_⟩
    obtain ⟨z, hz, rz⟩ := r9.get hx
    have oz := od z (List.mem_of_getElem? hz)
    have j9 : Jst a H9 H10 := ⟨hs9, hs10, o10⟩
    have x9 := (jr_st a).ex j9
    have j010 : Jst a H H10 := (j02.trans (Jst.same hs2 (s3.trans s39))).trans j9
    refine ⟨v, d, t, pp, x, z, n, rfl, Rdd.ex x9 _ hv9, ho, x9.tup ht9, ppo, by omega, by omega, Rdd.ex x9 _ rz, fun r H11 s11 rr11 => ?_⟩
    have pb := put_bad oz.1 oz.2 ppo ho
    exact q r _ _ H11 (j010.trans (Jst.same hs10 s11)) rr11 (by omega) pb.1 pb.2
end
end Sl

set_option Elab.async false
set_option linter.all false
set_option maxRecDepth 100000
set_option maxHeartbeats 400000
/-! ## Definitions, sorted by their numbers -/
namespace Sl
open PySem PySem.Spec PyProof.Rows L2
theorem asc_srtP : ∀ {l : List (Str × D)}, Asc (l.map (·.1)) → srtP l = l
  | [], _ => rfl
  | p :: r, h => by
    have h' := List.pairwise_cons.mp h
    have e := asc_srtP h'.2
    show insP p (srtP r) = p :: r
    rw [e]
    cases r with
    | nil => rfl
    | cons q r =>
      unfold insP
      rw [if_pos (h'.1 q.1 List.mem_cons_self)]
def sndAt (ps : List (Str × D)) (i : Nat) : D := (ps[i]?.map (·.2)).getD .non
def enP (ps : List (Str × D)) : List (Str × Int) := ps.zipIdx.map fun q => (q.1.1, (q.2 : Int))
theorem enP_at {ps : List (Str × D)} {i : Nat} : (enP ps)[i]? = ps[i]?.map fun p => (p.1, (i : Int)) := by
  unfold enP
  rw [List.getElem?_map, List.getElem?_zipIdx]
  cases ps[i]? with
  | none => rfl
  | some p => simp
theorem rows_srt {ps : List (Str × D)} {f : D → D} {ks : List (Str × Int)} (hn : (ps.map (·.1)).Nodup) (hp : ks.Perm (enP ps)) (hs : ks.Pairwise (fun x y => ltSI y x = false)) :
    ks.map (fun q => (q.1, f (sndAt ps q.2.toNat))) = srtP (ps.map fun p => (p.1, f p.2)) := by
  have e1 : (enP ps).map (fun q => (q.1, f (sndAt ps q.2.toNat))) = ps.map fun p => (p.1, f p.2) := by
    refine List.ext_getElem? fun i => ?_
    rw [List.getElem?_map, List.getElem?_map, enP_at]
    cases h : ps[i]? with
    | none => rfl
    | some p =>
      show some (p.1, f (sndAt ps (Int.toNat (i : Int)))) = some (p.1, f p.2)
      unfold sndAt
      rw [Int.toNat_natCast, h]
      rfl
  have pm : (ks.map (fun q => (q.1, f (sndAt ps q.2.toNat)))).Perm (ps.map fun p => (p.1, f p.2)) := by
    rw [← e1]
    exact hp.map _
  have e2 : (ps.map fun p => (p.1, f p.2)).map (·.1) = ps.map (·.1) := by
    rw [List.map_map]
    rfl
  have e3 : (ks.map (fun q => (q.1, f (sndAt ps q.2.toNat)))).map (·.1) = ks.map (·.1) := by
    rw [List.map_map]
    rfl
  have nk : (ks.map (·.1)).Nodup := by
    have := (pm.map (·.1)).nodup_iff.mpr (by rw [e2]; exact hn)
    rw [e3] at this
    exact this
  have asc : Asc ((ks.map (fun q => (q.1, f (sndAt ps q.2.toNat)))).map (·.1)) := by
    rw [e3]
    refine List.pairwise_map.mpr ?_
    have n2 := List.pairwise_map.mp (List.nodup_iff_pairwise_ne.mp nk)
    refine (hs.and n2).imp fun {x y} q => ?_
    obtain ⟨q1, q2⟩ := q
    unfold ltSI at q1
    rw [if_neg fun z => q2 z.symm] at q1
    cases e : sLt x.1 y.1
    · exact absurd (sLt_tri e q1) q2
    · rfl
  have u := srtP_uniq (l := ks.map (fun q => (q.1, f (sndAt ps q.2.toNat)))) (by rw [e3]; exact nk) pm
  rw [← u]
  exact (asc_srtP asc).symm
end Sl

set_option Elab.async false
set_option linter.all false
set_option maxRecDepth 100000
set_option maxHeartbeats 400000
namespace Sl
open PySem PySem.Spec PyProof.Rows L2
/-- the pairs ks at the items of xs -/
def PairsAt (K : PySem.W.Frag) (H : Hp) (xs : List V) (ks : List (Str × Int)) : Prop := xs.length = ks.length ∧ ∀ (i : Nat) (x : V), xs[i]? = some x → ∃ (t : Addr) (q : Str × Int), x = .ref t ∧ ks[i]? = some q ∧ SqT K H t [.str q.1, .int q.2]
/-- sorted(l), l a list of pairs of a string and an int, told by the pairs -/
def rSortedKI (K : PySem.W.Frag) : List V → Hp → VK → Prop := fun vs H Q => ∃ (a : Addr) (xs : List V) (ks : List (Str × Int)), vs = [V.ref a] ∧ SqL K H a xs ∧ PairsAt K H xs ks ∧
  ∀ ys ks' p, ks'.Perm ks → PairsAt K H ys ks' → ks'.Pairwise (fun x y => ltSI y x = false) → H p = none → Q (.ref p) (upd H p (.lst ys))
theorem cr_sortedKI {X : Cx} : CallR X (.builtin "sorted") (rSortedKI X.K) := by
  intro pins z σ H vs us Q I r h
  obtain ⟨a, xs, ks, rfl, hs, hx, q⟩ := h
  obtain ⟨hl, hx⟩ := hx
  have ex : ∀ x : V, ∃ q : Str × Int, x ∈ xs → ∃ t, x = V.ref t ∧ SqT X.K H t [.str q.1, .int q.2] := fun x => by
    by_cases m : x ∈ xs
    · obtain ⟨i, hi, rfl⟩ := List.getElem_of_mem m
      obtain ⟨t, q, e, _, s⟩ := hx i _ (List.getElem?_eq_getElem hi)
      exact ⟨q, fun _ => ⟨t, e, s⟩⟩
    · exact ⟨("", 0), fun z => absurd z m⟩
  have hk : ∀ x ∈ xs, ∃ t, x = V.ref t ∧ SqT X.K H t [.str (Classical.choose (ex x)).1, .int (Classical.choose (ex x)).2] := fun x m => Classical.choose_spec (ex x) m
  generalize (fun x => Classical.choose (ex x)) = k0 at hk
  have hk2 : ∃ k : V → Str × Int, ∀ x ∈ xs, ∃ t, x = V.ref t ∧ SqT X.K H t [.str (k x).1, .int (k x).2] := ⟨fun x => Classical.choose (ex x), fun x m => Classical.choose_spec (ex x) m⟩
  obtain ⟨k, hk⟩ := hk2
  have em : xs.map k = ks := by
    refine List.ext_getElem? fun i => ?_
    rw [List.getElem?_map]
    by_cases hi : i < xs.length
    · rw [List.getElem?_eq_getElem hi]
      obtain ⟨t, q, e, hq, s⟩ := hx i _ (List.getElem?_eq_getElem hi)
      obtain ⟨t2, e2, s2⟩ := hk _ (List.getElem_mem hi)
      rw [e] at e2
      cases e2
      have := I.tuple_inj s s2
      simp only [List.cons.injEq, V.str.injEq, V.int.injEq, and_true] at this
      rw [hq]
      exact congrArg some (Prod.ext this.1.symm this.2.symm)
    · rw [List.getElem?_eq_none (by omega), List.getElem?_eq_none (by omega)]
      rfl
  refine cr_sortedSI pins z σ H _ us Q I r ⟨a, xs, k, rfl, hs, hk, fun ys p hp hs2 np => q ys (ys.map k) p (em ▸ hp.map k) ⟨(List.length_map ..).symm, fun i y hy => ?_⟩ (List.pairwise_map.mpr hs2) np⟩
  obtain ⟨t, e, s⟩ := hk y (hp.mem_iff.mp (List.mem_of_getElem? hy))
  exact ⟨t, k y, e, by rw [List.getElem?_map, hy]; rfl, s⟩
theorem PairsAt.same {K : PySem.W.Frag} {H H' : Hp} {xs : List V} {ks : List (Str × Int)} (h : PairsAt K H xs ks) (s : Same H H') : PairsAt K H' xs ks := ⟨h.1, fun i x hx => by
  obtain ⟨t, q, a, b, c⟩ := h.2 i x hx
  exact ⟨t, q, a, b, (Ex.same s).tup c⟩⟩
end Sl

set_option Elab.async false
set_option linter.all false
set_option maxRecDepth 100000
set_option maxHeartbeats 1000000
/-! ### enumerate(t), t a tuple -/
namespace PySem
open AutoSeq1 (wpAny_loadPart')
theorem meets_enumerate_newTp (l : Addr) (items : Array Value) :
    Meets (Builtin.«enumerate.__new__» ⟨[.type "enumerate", .ref l], []⟩) (fun _ R s => s.heap.IsTuple l items ∧
      R (.ok (.ret (.ref (s.heap.push { cls := .type "tuple_iterator", data := .fields #[.ref l, .int 0 0] }).objs.size)))
        { s with heap := (s.heap.push { cls := .type "tuple_iterator", data := .fields #[.ref l, .int 0 0] }).push { cls := .type "enumerate", data := .fields #[.none, .bool false, .ref s.heap.objs.size, rawInt 0, .none, .none] } }) :=
  .of_wp fun prog w A R s h => by
    obtain ⟨hp, g, d, tk, os⟩ := s; obtain ⟨hL, h⟩ := h
    have hsub := sub_enumerate
    have hL' : Heap.IsTuple (Shared.heap ⟨hp, g, d, tk, os⟩) l items := hL
    wp_walk
    refine wpAny_stack_any fun st => wpAny_pure ?_
    split
    · rename_i c _ _ _ _ _
      cases (c == Value.type "enumerate")
      · wp_walk using wpAny_pyIter_tuple hL'
        exact ⟨_, rfl, h⟩
      · wp_walk using wpAny_pyIter_tuple hL'
        exact ⟨_, rfl, h⟩
    · wp_walk using wpAny_pyIter_tuple hL'
      exact ⟨_, rfl, h⟩
theorem call_enumerate_tup {prog : Program} {w : World} {A : Around} {E : Value → Shared → Prop} {s : Shared} {l : Addr} {items : Array Value} {Q : Value → Shared → Prop} (hL : s.heap.IsTuple l items)
    (h : ∀ h', IsEnum h' (s.heap.objs.size + 1) s.heap.objs.size 0 .none → h'.IsTupleIter s.heap.objs.size l 0 → h'.objs.size = s.heap.objs.size + 2 →
      (∀ b o, s.heap.get? b = some o → h'.get? b = some o) → Q (.ref (s.heap.objs.size + 1)) { s with heap := h' }) :
    wpAny (model prog w) A (call (.type "enumerate") [.ref l]) Q E s := by
  refine callType_new F.called_enumerate (by decide) (F.typeCall_enumerate_1 _) (F.newCall_enumerate_1 _) (fun obj => F.args_object_init_2 obj _) F.entry_enumerate_new
    (meets_enumerate_newTp l items) ⟨hL, ?_⟩
  have hz : (s.heap.push { cls := .type "tuple_iterator", data := .fields #[.ref l, .int 0 0] }).objs.size = s.heap.objs.size + 1 := Heap.size_push ..
  show _ ∧ _
  rw [hz]
  have he : IsEnum ((s.heap.push { cls := .type "tuple_iterator", data := .fields #[.ref l, .int 0 0] }).push
      { cls := .type "enumerate", data := .fields #[.none, .bool false, .ref s.heap.objs.size, rawInt 0, .none, .none] }) (s.heap.objs.size + 1) s.heap.objs.size 0 .none := by
    have := Heap.get?_push_size (s.heap.push { cls := .type "tuple_iterator", data := .fields #[.ref l, .int 0 0] })
      (o := { cls := .type "enumerate", data := .fields #[.none, .bool false, .ref s.heap.objs.size, rawInt 0, .none, .none] }) rfl
    rw [hz] at this; exact this
  refine ⟨⟨_, he, rfl⟩, h _ he ⟨_, Heap.get?_push_of_some _ (Heap.get?_push_size _ rfl), rfl, rfl⟩ (by rw [Heap.size_push, hz]) fun b o x => Heap.get?_push_of_some _ (Heap.get?_push_of_some _ x)⟩
end PySem
namespace Sl
open PySem PySem.Spec PyProof.Rows L2
def IteT (K : PySem.W.Frag) (a : Addr) : It :=
  ⟨fun i H => ∃ (xs : List V) (x : V), SqT K H a xs ∧ xs[i]? = some x, fun i H v H' => ∃ T x, v = .ref T ∧ H T = none ∧ H' = upd H T (.tup [.int (i : Nat), x]) ∧ ∀ xs, SqT K H a xs → xs[i]? = some x, fun i H => ∃ xs : List V, SqT K H a xs ∧ xs.length = i⟩
theorem turn_enumT {P : Program} {w : World} {K : PySem.W.Frag} {elts : List Expr} {kk : Nat} {tpos : Pos} (a e it : Addr) :
    Turn P w K (.Tuple elts kk tpos) (IteT K a) [e, it] e (fun i h => (∃ old, IsEnum h e it ((i : Nat) : Int) old) ∧ h.IsTupleIter it a i ∧ e ≠ it ∧ e ≠ a ∧ a ≠ it) where
  mem := by simp
  obj := fun i h st b hb => by
    obtain ⟨⟨old, he⟩, ⟨o, ho, hc, hd⟩, _⟩ := st
    have e' : b = e ∨ b = it := by simpa using hb
    rcases e' with z | z
    · rw [z]; exact ⟨_, he, fun v q => nomatch q⟩
    · rw [z]; exact ⟨o, ho, fun v q => by rw [hd] at q; cases q⟩
  keep := fun i h h' st k => let ⟨⟨old, he⟩, hi, hne⟩ := st; ⟨⟨old, k e (by simp) _ he⟩, hi.at fun o q => k it (by simp) o q, hne⟩
  item := by
    intro X hP hw hK hc i pins s σ H E I hf st hg
    subst hP hw hK
    obtain ⟨⟨old, he⟩, hit, hne, hea, hai⟩ := st
    obtain ⟨xs, x, hq, hx⟩ := hg
    obtain ⟨its, rv, p, hz⟩ := I.tuple hq
    obtain ⟨u, hu, ru⟩ := rv.get hx
    have hel : e < s.heap.objs.size := Heap.lt_size he
    have hil : it < s.heap.objs.size := by obtain ⟨_, q, _⟩ := hit; exact Heap.lt_size q
    have hlt := (List.getElem?_eq_some_iff.mp hu).1
    have DT : Draws X.prog X.w X.A.in1 it [it, a] its.toArray.size (fun i v => its.toArray[i]? = some v) (fun i h => h.IsTupleIter it a i ∧ h.IsTuple a its.toArray) := Draws.tuple (show X.A.in1.handled = none from I.ok.hd hc) it a hai its.toArray
    refine wpAny_pyNext_enum_itemD DT he ⟨hit, p⟩ (by rw [List.size_toArray]; exact hlt) hne (by simp [hne, hea]) fun y h' tk hy ho hit' hT hsz hk => ?_
    have ey : y = u := by
      have hy' : its[i]? = some y := by simpa using hy
      rw [hu] at hy'
      exact (Option.some.inj hy').symm
    subst ey
    refine ⟨_, rfl, wpAny_letOwnedTupleGo_enum (s := { s with heap := h', toks := tk + 1 }) ho fun h'' he' sb => ?_⟩
    have hT2 : h''.get? s.heap.objs.size = some { cls := .type "tuple", data := .seq #[.int i tk, y] } := (sb.2 _ (Nat.ne_of_gt hel)).trans hT
    have new : ObjOk X.prog X.w (upd H s.heap.objs.size (.tup [.int (i : Nat), x])) h'' s.heap.objs.size (.tup [.int (i : Nat), x]) :=
      ⟨by show 2 ≤ sizeLine; decide, [.int i tk, y], .cons ⟨_, rfl⟩ (.cons ru .nil), ⟨_, hT2, rfl, _, rfl⟩⟩
    have I1 : Inv X pins σ (upd H s.heap.objs.size (.tup [.int (i : Nat), x])) { s with heap := h'', toks := tk + 1 } :=
      I.turnedNew (ch := [e, it]) (fun b ob hb q => (sb.2 b (fun z => hb (by simp [z]))).trans (hk b ob (fun z => hb (by simp [z])) (fun z => hb (by simp [z])) q)) hf (Nat.le_refl _) new
    refine ⟨.ref s.heap.objs.size, _, I1, rfl, ⟨_, x, rfl, I.hok.fresh (Nat.le_refl _), rfl, fun ys hy => by rw [I.tuple_inj hy hq]; exact hx⟩, ⟨⟨y, ?_⟩, hit'.1.at fun o q => (sb.2 it (Ne.symm hne)).trans q, hne, hea, hai⟩, fun b hb => ?_⟩
    · have e1 : ((i + 1 : Nat) : Int) = (i : Int) + 1 := by omega
      rw [e1]; exact he'
    · have hb' : b < s.heap.objs.size := by
        have e' : b = e ∨ b = it := by simpa using hb
        rcases e' with z | z
        · rw [z]; exact hel
        · rw [z]; exact hil
      rw [upd_ne (Nat.ne_of_lt hb')]
      exact (hf b hb).1
  done := by
    intro X hP hw hK hc i pins s σ H E I hf st hg
    subst hP hw hK
    obtain ⟨⟨old, he⟩, hit, hne, hea, hai⟩ := st
    obtain ⟨xs, hq, hx⟩ := hg
    obtain ⟨its, rv, p, hz⟩ := I.tuple hq
    obtain ⟨f0, f1, f2, f3, f4, f5⟩ := hf it (by simp)
    have hl := rv.length
    have DT : Draws X.prog X.w X.A.in1 it [it, a] its.toArray.size (fun i v => its.toArray[i]? = some v) (fun i h => h.IsTupleIter it a i ∧ h.IsTuple a its.toArray) := Draws.tuple (show X.A.in1.handled = none from I.ok.hd hc) it a hai its.toArray
    have ei : i = its.toArray.size := by rw [List.size_toArray]; omega
    exact wpAny_pyNext_enum_endD DT he ⟨ei ▸ hit, p⟩ fun h' eb => ⟨rfl, I.turned (t' := s.toks) (fun b o hb q => eb b o hb q) f0 f1 f3 f4 f5⟩
  self := fun A i s Q E st h => let ⟨⟨_, he⟩, _⟩ := st; wpAny_pyIter_enum he h
def iEnumT (K : PySem.W.Frag) (ta : TA) : TI := fun σ H R => ta σ H fun vs H1 => ∃ a xs, vs = [.ref a] ∧ SqT K H1 a xs ∧ R (IteT K a) H1
theorem pi_enumT {X : Cx} {e : Expr} {ta : TA} {p pos tpos : Pos} {elts : List Expr} {kk : Nat} (hg : Gl X "enumerate") (hm : X.mg "enumerate" = none) (ha : PA X [e] ta) (hs : starEach [e] X.env = [(false, eval e X.env)] := by rfl) :
    PI X (.Tuple elts kk tpos) (.Call (.Name "enumerate" p) [e] [] pos) (iEnumT X.K ta) := by
  refine ⟨fun pins s σ H R I h => ?_⟩
  refine Call_ (ld_blt I hg hm boot_enumerate (PyProof.Rows.callWith_type1 (thn (ha.run pos pins s σ H _ I h) fun us s1 ⟨vs, H1, I1, r1, q1⟩ => ?_) hs rfl))
  obtain ⟨a, xs, ex, hq, q⟩ := q1
  subst ex
  cases r1 with
  | cons r rr =>
    cases rr
    cases r
    obtain ⟨its, rv, p', hz⟩ := I1.tuple hq
    have la : a < s1.heap.objs.size := by obtain ⟨o, ho, _⟩ := p'; exact Heap.lt_size ho
    refine call_enumerate_tup p' fun h' he hit hsz hk => wpAny_pyIter_enum he ?_
    have I2 : Inv X pins σ H1 { s1 with heap := h' } := I1.kept (t' := s1.toks) hk
    refine ⟨s1.heap.objs.size + 1, [s1.heap.objs.size + 1, s1.heap.objs.size], _, _, H1, rfl, I2, turn_enumT a (s1.heap.objs.size + 1) s1.heap.objs.size, ⟨⟨.none, he⟩, hit, Nat.succ_ne_self _, Nat.ne_of_gt (Nat.lt_succ_of_lt la), Nat.ne_of_lt la⟩, fun b hb => ?_, q⟩
    have e' : b = s1.heap.objs.size + 1 ∨ b = s1.heap.objs.size := by simpa using hb
    have hle : s1.heap.objs.size ≤ b := by
      rcases e' with z | z
      · rw [z]; exact Nat.le_add_right _ _
      · rw [z]; exact Nat.le_refl _
    exact I1.fpOk hle (I1.hok.fresh hle)
section
variable {K : PySem.W.Frag} {J : Hp → Hp → Prop} {a D0 : Addr} {xs : List V} {g : TG} {tt : TT} {te : TE} {vs : List Nat} {σ : L2.St} {H1 : Hp} {Qd : Hp → Prop} {Pd : Nat → D → Prop}
/-- a comprehension over enumerate(t) -/
theorem lcJE (jr : Jr J) (j0 : J H1 H1) (js : ∀ {G G'}, Same G G' → J G G') (hz : xs.length ≤ 100000) (hT : SqT K H1 a xs) (hD : H1 D0 = none)
    (hs : ∀ (i : Nat) (x : V) (p : Addr) (H : Hp) (Q : VK) (Z : Hp → Prop), xs[i]? = some x → J H1 H → H p = some (.tup [.int (i : Nat), x]) → (∀ y H' d, J H H' → Rdd K H' y d → Pd i d → Q y H') →
      g (.ref p) (wipe σ vs) H fun σ2 H2 => wipe σ2 vs = wipe σ vs ∧ tt σ2 H2 fun b H3 => if b = true then te σ2 H3 Q else Z H3)
    (hd : ∀ H ys ds, J H1 H → H D0 = some (.lst ys) → RddAll K H ys ds → ds.length = xs.length → (∀ j d, ds[j]? = some d → Pd j d) → Qd H) :
    ∃ W : Nat → Nat → Hp → Prop, (∃ m, W 0 m (upd H1 D0 (.lst []))) ∧ ∀ i m H, W i m H →
      ((IteT K a).stop i H ∧ Qd H) ∨ ((IteT K a).go i H ∧ ∃ Nx : Hp → Prop, (∀ H', Nx H' → ∃ m', m' < m ∧ W (i + 1) m' H') ∧ ∀ x H', (IteT K a).yld i H x H' → g x (wipe σ vs) H' fun σ2 H2 => wipe σ2 vs = wipe σ vs ∧ tt σ2 H2 fun b H3 =>
        if b = true then te σ2 H3 fun y H4 => ∃ acc, H4 D0 = some (.lst acc) ∧ acc.length < sizeLine ∧ Nx (upd H4 D0 (.lst (acc ++ [y]))) else Nx H3) := by
  refine ⟨fun i m H => m = xs.length - i ∧ i ≤ xs.length ∧ Accd K J H1 D0 Pd i H, ⟨xs.length, by simp, Nat.zero_le _, accd_start jr j0 hD⟩, ?_⟩
  rintro i m H ⟨rfl, hi, p⟩
  have q := (jr.ex p.1).tup hT
  by_cases hlt : i < xs.length
  · refine .inr ⟨⟨xs, xs[i], q, by simp [hlt]⟩, Accd K J H1 D0 Pd (i + 1), fun H' p' => ⟨xs.length - (i + 1), by omega, rfl, hlt, p'⟩, fun x H' y => ?_⟩
    obtain ⟨T, x, rfl, n0, rfl, hx⟩ := y
    have s1 := Same.new (o := .tup [.int (i : Nat), x]) n0
    have p' : Accd K J H1 D0 Pd i (upd H T (.tup [.int (i : Nat), x])) := by
      obtain ⟨j1, ys, ds, h1, h2, h3, h4⟩ := p
      exact ⟨jr.tr j1 (js s1), ys, ds, s1 _ _ h1, RddAll.ex (.same s1) _ h2, h3, h4⟩
    exact hs i x T _ _ _ (hx xs q) p'.1 upd_same fun y H' d j r pd => accd_turn jr hD (by omega) p' j r pd
  · have e : i = xs.length := by omega
    subst e
    obtain ⟨j1, ys, ds, h1, h2, h3, h4⟩ := p
    exact .inl ⟨⟨xs, q, rfl⟩, hd H ys ds j1 h1 h2 h3 h4⟩
end
end Sl

set_option Elab.async false
set_option linter.all false
set_option maxRecDepth 100000
set_option maxHeartbeats 400000
namespace Sl
open PySem PySem.Spec PyProof.Rows L2
abbrev sSorted : Stmt := topT 38
theorem scSorted : FnScope ["_law_part_here", "_law_order", "_law_rows", "_law_spot", "_law_name_here", "_law_inner_here"] ["_law_part_here"] (defScope sSorted) := ⟨rfl, rfl, rfl, by decide +kernel, rfl, by decide +kernel, by decide +kernel⟩
theorem mkPs_at {ps : List (Str × D)} {i : Nat} : (mkPs ps)[i]? = ps[i]?.map fun p => D.tup [.str p.1, p.2] := by
  unfold mkPs
  rw [List.getElem?_map]
theorem ds_eq {ds : List D} {es : List D} (hl : ds.length = es.length) (h : ∀ (i : Nat) (d : D), ds[i]? = some d → es[i]? = some d) : ds = es := by
  refine List.ext_getElem? fun i => ?_
  by_cases hi : i < ds.length
  · rw [List.getElem?_eq_getElem hi, h i _ (List.getElem?_eq_getElem hi)]
  · rw [List.getElem?_eq_none (by omega), List.getElem?_eq_none (by omega)]
section
variable {P : Program} {w : World} {K : PySem.W.Frag} {mg : Str → Option Value} {base : Heap} {fWi fPu fIn fPa fSo : Addr} {fdWi fdPu fdIn fdPa fdSo : FuncData}
structure Lso (K : PySem.W.Frag) (mg : Str → Option Value) (fSo : Addr) (fdSo : FuncData) : Prop where
  FSo : Fun K "_law_sorted" "_law_sorted" sSorted fSo fdSo
  bSo : Binds K fdSo ["_law_part_here"] []
  gSo : mg "_law_sorted" = some (.ref fSo)
def spSorted (K : PySem.W.Frag) (n : Nat) : Sp := fun vs H Q _ => ∃ (v : V) (d : D), vs = [v] ∧ Rdd K H v d ∧ OpN n d ∧ ∀ r H', Same H H' → Rdd K H' r (srtD n d) → Q r H'
theorem ok_sorted (S : Lso K mg fSo fdSo) (T : Lp K mg fIn fPa fdIn fdPa) (Y : Lq K mg fWi fPu fdWi fdPu) (B : Bt mg) : ∀ n, FnOk P w K mg base CX0 (n + 2) fSo fdSo ["_law_part_here"] (spSorted K (n + 1)) := by
  have GI : FnOk P w K mg base CX0 1 fIn fdIn ["_law_part_here"] (spInn K) := ok_inner T B
  have GW : FnOk P w K mg base CX0 1 fWi fdWi ["_law_part_here", "_law_some_here"] (spWith K) := ok_with Y.FWi B Y.zip
  have key : ∀ (n : Nat) (sp : Sp), FnOk P w K mg base CX0 (n + 1) fSo fdSo ["_law_part_here"] sp →
      (∀ (v : V) (d : D) (H : Hp) (Q : VK) (E : XK), Rdd K H v d → OpN n d → (∀ r H', Same H H' → Rdd K H' r (srtD n d) → Q r H') → sp [v] H Q E) →
      FnOk P w K mg base CX0 (n + 2) fSo fdSo ["_law_part_here"] (spSorted K (n + 1)) := by
    intro n sp GS hsp
    refine S.FSo.ok scSorted (fun vs H Q E h => ?_) (fun cdv A outer s H vs Q E hr h => ?_)
    · obtain ⟨v, d, rfl, _⟩ := h
      rfl
    · obtain ⟨v, d, rfl, hv, ho, q⟩ := h
      have h1 := hr.mono (by omega : 1 ≤ n + 1)
      have sl := sizeLine_eq
      refine ⟨_, (pss_cons (ps_if (pt_cmpR op_eq (pe_ix ix_tup (pv 0) pe_int (fun _ _ => rfl)) pe_str (nomark _))
        (pss_one (ps_ret (pv 0)))
        pss_nil)
      (pss_cons (ps_if (pt_cmpR op_eq (pe_ix ix_tup (pv 0) pe_int (fun _ _ => rfl)) pe_str (nomark _))
        (pss_cons (ps_set (i := 1) scSorted.nd rfl (Or.inl rfl) (pe_callB cr_sortedKI (by rfl) B.sorted (by decide +kernel) (pa_cons
            (pe_lc (own := [("_law_spot", 3), ("_law_name_here", 4), ("_law_inner_here", 5)]) (g := gTup K 2 (gCons (gName 3) (gCons (gTup K 2 (gCons (gName 4) (gCons (gName 5) gNil))) gNil))) (tt := tYes) (te := tTup (tCons (tVar 4) (tCons (tVar 3) tNil))) rfl scSorted.nd (pi_enumT (by rfl) B.enum (pa_cons (pe_ix ix_tup (pv 0) pe_int (fun _ _ => rfl)) pa_nil))
              (blkOk_by (own := [("_law_spot", 3), ("_law_name_here", 4), ("_law_inner_here", 5)]) (N := ["_law_part_here", "_law_order", "_law_rows", "_law_spot", "_law_name_here", "_law_inner_here"]) (sc := defScope sSorted) (by decide +kernel))
              (fun _ _ _ _ _ => pg_tup rfl (pgs_cons (pg_name (i := 3) scSorted.nd rfl (Or.inl rfl)) (pgs_cons (pg_tup rfl (pgs_cons (pg_name (i := 4) scSorted.nd rfl (Or.inl rfl)) (pgs_cons (pg_name (i := 5) scSorted.nd rfl (Or.inl rfl)) pgs_nil))) pgs_nil))) (fun _ _ _ _ _ => pts_nil)
              (fun _ _ _ _ _ => pe_tup (pa_cons (pv 4) (pa_cons (pv 3) pa_nil)))) pa_nil)))
        (pss_cons (ps_setLc (i := 2) (own := [("_law_name_here", 4), ("_law_spot", 3)]) (g := gTup K 2 (gCons (gName 4) (gCons (gName 3) gNil))) (tt := tYes)
            (te := tTup (tCons (tVar 4) (tCons (tCall sp [] E0 (tCons (tOp (rIxT K) (tOp (rIxT K) (tOp (rIxT K) (tVar 0) (tC (.int 1))) (tVar 3)) (tC (.int 1))) tNil)) tNil))) rfl scSorted.nd rfl rfl (sw_true rfl rfl rfl (by decide +kernel)) (pi_list (pv 1)) (blkOk_by (own := [("_law_name_here", 4), ("_law_spot", 3)]) (N := ["_law_part_here", "_law_order", "_law_rows", "_law_spot", "_law_name_here", "_law_inner_here"]) (sc := defScope sSorted) (by decide +kernel))
            (fun _ _ _ _ _ => pg_tup rfl (pgs_cons (pg_name (i := 4) scSorted.nd rfl (Or.inl rfl)) (pgs_cons (pg_name (i := 3) scSorted.nd rfl (Or.inl rfl)) pgs_nil))) (fun _ _ _ _ _ => pts_nil)
            (fun _ _ _ _ _ => by exact pe_tup (pa_cons (pv 4) (pa_cons (pe_call GS hr (by rfl) S.gSo S.FSo.kp S.bSo .nil pass0 (pa_cons (pe_ix ix_tup (pe_ix ix_tup (pe_ix ix_tup (pv 0) pe_int (fun _ _ => rfl)) (pv 3) (fun _ _ => rfl)) pe_int (fun _ _ => rfl)) pa_nil)) pa_nil))))
        (pss_one (ps_ret (pe_tup (pa_cons pe_str (pa_cons (pe_callTy call_tuple_of (by rfl) B.tuple (by decide +kernel) (pa_cons (pv 2) pa_nil)) (pa_cons (pe_call GS hr (by rfl) S.gSo S.FSo.kp S.bSo .nil pass0 (pa_cons (pe_ix ix_tup (pv 0) pe_int (fun _ _ => rfl)) pa_nil)) pa_nil))))))))
        pss_nil)
      (pss_one (ps_ret (pe_call GW h1 (by rfl) Y.gWi Y.FWi.kp Y.bWi .nil pass0 (pa_cons (pv 0) (pa_cons
          (pe_lc (own := [("_law_inner_here", 5)]) (g := gName 5) (tt := tYes) (te := tCall sp [] E0 (tCons (tVar 5) tNil)) rfl scSorted.nd (pi_tup (pe_call GI h1 (by rfl) T.gIn T.FIn.kp T.bIn .nil pass0 (pa_cons (pv 0) pa_nil)))
            (blkOk_by (own := [("_law_inner_here", 5)]) (N := ["_law_part_here", "_law_order", "_law_rows", "_law_spot", "_law_name_here", "_law_inner_here"]) (sc := defScope sSorted) (by decide +kernel))
            (fun _ _ _ _ _ => pg_name (i := 5) scSorted.nd rfl (Or.inl rfl)) (fun _ _ _ _ _ => pts_nil)
            (fun _ _ _ _ _ => by exact pe_call GS hr (by rfl) S.gSo S.FSo.kp S.bSo .nil pass0 (pa_cons (pv 5) pa_nil))) pa_nil))))))), ?_⟩
      have om := OpN.s.mp ho
      rcases built_cases om.1.1 with ⟨x, rfl, _⟩ | ⟨x, l0, rfl, hx, hl0⟩ | ⟨x, b, rfl, hx⟩ | ⟨ps, b, rfl, hp⟩
      · obtain ⟨a, xs, rfl, hs, hx2, _⟩ := hv.tupd'
        obtain ⟨x1, x2, rfl, r1, r2⟩ := hx2.pair
        cases r1
        refine ⟨.ref a, rfl, a, _, 0, _, rfl, rfl, hs, atI_nat (j := 0) rfl, rfl, _, rfl, ?_⟩
        rw [str_dec, decide_eq_true rfl]
        exact iteT ⟨.ref a, rfl, q _ _ (Same.refl _) hv⟩
      · have e1 : withI (mkW x l0) ((inn (mkW x l0)).map (srtD n)) = srtD (n + 1) (mkW x l0) := by rw [with_W, inn_W, srt_W]
        obtain ⟨a, xs, rfl, hs, hx3, _⟩ := hv.tupd'
        obtain ⟨x1, x2, x3, rfl, r1, r2, r3⟩ := hx3.trip
        cases r1
        refine ⟨.ref a, rfl, a, _, 0, _, rfl, rfl, hs, atI_nat (j := 0) rfl, rfl, _, rfl, ?_⟩
        rw [str_dec, decide_eq_false (by decide +kernel : ¬ ("word" : Str) = "name")]
        refine iteF ⟨.ref a, rfl, a, _, 0, _, rfl, rfl, hs, atI_nat (j := 0) rfl, rfl, _, rfl, ?_⟩
        rw [str_dec, decide_eq_false (by decide +kernel : ¬ ("word" : Str) = "let")]
        refine iteF ⟨.ref a, rfl, .ref a, rfl, .ref a, _, rfl, hv, om.1.1, fun r H1 s1 rr => ?_⟩
        obtain ⟨t, us, rfl, ht, ru, hlu⟩ := rr.tupd'
        refine ⟨t, rfl, ⟨_, ht⟩, fun D0 nD => lcJT (K := K) (J := Same) (Pd := fun i e => (((inn (mkW x l0)).map (srtD n))[i]? = some e)) jr_same (Same.refl _) (by have := ru.length; omega) ht nD ?_ ?_⟩
        · intro i y H2 Q2 Z2 hy s2 hQ
          refine ⟨rfl, ?_⟩
          obtain ⟨e, he, re⟩ := ru.get hy
          refine iteT (B := Z2 H2) ⟨y, rfl, hsp y e H2 Q2 _ (Rdd.ex (.same s2) _ re) (om.2 e (List.mem_of_getElem? he)) fun r H3 s3 r3 => hQ r H3 _ s3 r3 ?_⟩
          rw [List.getElem?_map, he]
          rfl
        · intro H2 ys ds s2 hD ra la hds
          have lu := ru.length
          have ed := ds_eq (by rw [List.length_map, la, lu]) hds
          subst ed
          have s02 := s1.trans s2
          refine ⟨.ref a, _, D0, ys, _, rfl, Rdd.ex (.same s02) _ hv, om.1.1, rfl, hD, ra, List.length_map .., fun r H3 s3 r3 => q r H3 (s02.trans s3) ?_⟩
          rw [← e1]
          exact r3
      · have e1 : withI (mkF x b) ((inn (mkF x b)).map (srtD n)) = srtD (n + 1) (mkF x b) := by rw [inn_F, List.map_singleton, with_F, srt_F]
        obtain ⟨a, xs, rfl, hs, hx3, _⟩ := hv.tupd'
        obtain ⟨x1, x2, x3, rfl, r1, r2, r3⟩ := hx3.trip
        cases r1
        refine ⟨.ref a, rfl, a, _, 0, _, rfl, rfl, hs, atI_nat (j := 0) rfl, rfl, _, rfl, ?_⟩
        rw [str_dec, decide_eq_false (by decide +kernel : ¬ ("fun" : Str) = "name")]
        refine iteF ⟨.ref a, rfl, a, _, 0, _, rfl, rfl, hs, atI_nat (j := 0) rfl, rfl, _, rfl, ?_⟩
        rw [str_dec, decide_eq_false (by decide +kernel : ¬ ("fun" : Str) = "let")]
        refine iteF ⟨.ref a, rfl, .ref a, rfl, .ref a, _, rfl, hv, om.1.1, fun r H1 s1 rr => ?_⟩
        obtain ⟨t, us, rfl, ht, ru, hlu⟩ := rr.tupd'
        refine ⟨t, rfl, ⟨_, ht⟩, fun D0 nD => lcJT (K := K) (J := Same) (Pd := fun i e => (((inn (mkF x b)).map (srtD n))[i]? = some e)) jr_same (Same.refl _) (by have := ru.length; omega) ht nD ?_ ?_⟩
        · intro i y H2 Q2 Z2 hy s2 hQ
          refine ⟨rfl, ?_⟩
          obtain ⟨e, he, re⟩ := ru.get hy
          refine iteT (B := Z2 H2) ⟨y, rfl, hsp y e H2 Q2 _ (Rdd.ex (.same s2) _ re) (om.2 e (List.mem_of_getElem? he)) fun r H3 s3 r3 => hQ r H3 _ s3 r3 ?_⟩
          rw [List.getElem?_map, he]
          rfl
        · intro H2 ys ds s2 hD ra la hds
          have lu := ru.length
          have ed := ds_eq (by rw [List.length_map, la, lu]) hds
          subst ed
          have s02 := s1.trans s2
          refine ⟨.ref a, _, D0, ys, _, rfl, Rdd.ex (.same s02) _ hv, om.1.1, rfl, hD, ra, List.length_map .., fun r H3 s3 r3 => q r H3 (s02.trans s3) ?_⟩
          rw [← e1]
          exact r3
      · obtain ⟨a, xs, rfl, hs, hx3, _⟩ := hv.tupd'
        obtain ⟨x1, x2, x3, rfl, r1, r2, r3⟩ := hx3.trip
        cases r1
        obtain ⟨c, ys, rfl, hc, hy, hyz⟩ := r2.tupd'
        have oi := om.2
        rw [inn_L] at oi
        obtain ⟨us, ru, lu, at'⟩ := hy.snds
        have ly := hy.length
        have lp : (mkPs ps).length = ps.length := List.length_map ..
        have hp2 := hp.2.1
        refine ⟨.ref a, rfl, a, _, 0, _, rfl, rfl, hs, atI_nat (j := 0) rfl, rfl, _, rfl, ?_⟩
        rw [str_dec, decide_eq_false (by decide +kernel : ¬ ("let" : Str) = "name")]
        refine iteF ⟨.ref a, rfl, a, _, 0, _, rfl, rfl, hs, atI_nat (j := 0) rfl, rfl, _, rfl, ?_⟩
        rw [str_dec, decide_eq_true rfl]
        refine iteT ⟨.ref a, rfl, a, _, 1, _, rfl, rfl, hs, atI_nat (j := 1) rfl, c, ys, rfl, hc, fun D0 nD => lcJE (K := K) (J := Same) (Pd := fun i e => ∃ p, ps[i]? = some p ∧ e = .tup [.str p.1, .int (i : Nat)]) jr_same (Same.refl _) (fun s => s) (by omega) hc nD ?_ ?_⟩
        · intro i x p H2 Q2 Z2 hx s2 hpt hQ
          obtain ⟨e, y, u, rfl, he, hu, hy1⟩ := at' i x hx
          refine ⟨p, _, rfl, SqT.of hpt, rfl, _, _, rfl, _, _, rfl, ⟨e, _, rfl, (Ex.same s2).tup he, rfl, _, _, rfl, _, _, rfl, rfl, rfl, rfl, ?_⟩⟩
          refine iteT (B := Z2 H2) ⟨_, rfl, _, rfl, (by show 2 ≤ sizeLine; decide), fun p2 n2 => ?_⟩
          rw [List.getElem?_map] at hy1
          obtain ⟨pj, hpj, e3⟩ := Option.map_eq_some_iff.mp hy1
          refine hQ _ _ (.tup [.str y, .int (i : Nat)]) (Same.new n2) (.tup (SqT.of upd_same) (.cons (.str _) (.cons (.int _) .nil)) (Nat.le_of_ble_eq_true rfl)) ⟨pj, hpj, by rw [e3]⟩
        · intro H2 zs ds s2 hD ra la hds
          have pz : PairsAt K H2 zs (enP ps) := by
            have le : (enP ps).length = ps.length := by unfold enP; rw [List.length_map, List.length_zipIdx]
            have lz := ra.length
            refine ⟨by rw [le]; omega, fun i x hx => ?_⟩
            obtain ⟨dd, hdd, rx⟩ := ra.get hx
            obtain ⟨pj, hpj, rfl⟩ := hds i dd hdd
            obtain ⟨t, ws, rfl, ht, rw', _⟩ := rx.tupd'
            obtain ⟨w1, w2, rfl, q1, q2⟩ := rw'.pair
            cases q1
            cases q2
            exact ⟨t, (pj.1, (i : Int)), rfl, by rw [enP_at, hpj]; rfl, ht⟩
          refine ⟨D0, zs, enP ps, rfl, SqL.of hD, pz, fun os ks p1 pk po pw n1 => ?_⟩
          have s3 := Same.new (o := .lst os) n1
          have h3 : (upd H2 p1 (.lst os)) p1 = some (.lst os) := upd_same
          have po3 := po.same s3
          generalize upd H2 p1 (.lst os) = H3 at s3 h3 po3 ⊢
          have s03 := s2.trans s3
          refine ⟨.ref p1, rfl, p1, rfl, ⟨_, SqL.of h3⟩, fun D1 nD1 => lcJL (K := K) (J := Same) (xs := os) (Pd := fun i e => ∃ k, ks[i]? = some k ∧ e = .tup [.str k.1, srtD n (sndAt ps k.2.toNat)]) jr_same (Same.refl _) (by have := po.1; have := pk.length_eq; unfold enP at this; rw [List.length_map, List.length_zipIdx] at this; omega) (fun H j => SqL.of (j _ _ h3)) nD1 ?_ ?_⟩
          · intro i x H4 Q4 Z4 hx s4 hQ
            obtain ⟨t, k, rfl, hk, ht⟩ := po3.2 i x hx
            have s04 := s03.trans s4
            have mk := pk.mem_iff.mp (List.mem_of_getElem? hk)
            obtain ⟨j, hj⟩ := List.mem_iff_getElem?.mp mk
            rw [enP_at] at hj
            obtain ⟨pj, hpj, e3⟩ := Option.map_eq_some_iff.mp hj
            have jl : j < ys.length := by
              have := (List.getElem?_eq_some_iff.mp hpj).1
              omega
            obtain ⟨e, y, u, e4, he, hu, hy1⟩ := at' j _ (List.getElem?_eq_getElem jl)
            have hyj : ys[j]? = some (.ref e) := by rw [List.getElem?_eq_getElem jl, e4]
            have rsu : Rdd K H u pj.2 := by
              obtain ⟨d2, hd2, rd2⟩ := ru.get hu
              rw [List.getElem?_map, hpj] at hd2
              cases hd2
              exact rd2
            have osu : OpN n pj.2 := oi pj.2 (List.mem_append_left _ (List.mem_map.mpr ⟨pj, List.mem_of_getElem? hpj, rfl⟩))
            subst e3
            refine ⟨t, _, rfl, (Ex.same s4).tup ht, rfl, _, _, rfl, _, _, rfl, rfl, rfl, ?_⟩
            refine iteT (B := Z4 H4) ⟨.str pj.1, rfl, .ref a, rfl, a, _, 1, .ref c, rfl, rfl, (Ex.same s04).tup hs, atI_nat (j := 1) rfl, .int (j : Nat), rfl, c, ys, (j : Nat), .ref e, rfl, rfl, (Ex.same s04).tup hc, atI_nat hyj, e, [.str y, u], 1, u, rfl, rfl, (Ex.same s04).tup he, atI_nat (j := 1) rfl, hsp u pj.2 H4 _ _ (Rdd.ex (.same s04) _ rsu) osu fun r H5 s5 r5 => ⟨(by show 2 ≤ sizeLine; decide), fun p2 n2 => ?_⟩⟩
            have s6 := Same.new (o := .tup [.str pj.1, r]) n2
            refine hQ _ _ (.tup [.str pj.1, srtD n pj.2]) (s5.trans s6) (.tup (SqT.of upd_same) (.cons (.str _) (.cons (Rdd.ex (.same s6) _ r5) .nil)) (Nat.le_of_ble_eq_true rfl)) ⟨_, hk, ?_⟩
            have e5 : sndAt ps (Int.toNat ((j : Nat) : Int)) = pj.2 := by
              unfold sndAt
              rw [Int.toNat_natCast, hpj]
              rfl
            show _ = D.tup [.str pj.1, srtD n (sndAt ps (Int.toNat ((j : Nat) : Int)))]
            rw [e5]
          · intro H4 rs ds2 s4 hD1 rrs lds hds2
            have s04 := s03.trans s4
            have ed : ds2 = mkPs (srtP (ps.map fun p => (p.1, srtD n p.2))) := by
              rw [← rows_srt (f := srtD n) hp.2.2.2 pk pw]
              refine ds_eq ?_ fun i dd h => ?_
              · unfold mkPs
                rw [List.length_map, List.length_map, lds, po.1]
              · obtain ⟨k, hk, rfl⟩ := hds2 i dd h
                rw [mkPs_at, List.getElem?_map, hk]
                rfl
            subst ed
            refine ⟨.ref D1, rfl, D1, _, rfl, .inl ⟨SqL.of hD1, fun p5 n5 => ?_⟩⟩
            have s5 := Same.new (o := .tup rs) n5
            have h5 : (upd H4 p5 (.tup rs)) p5 = some (.tup rs) := upd_same
            generalize upd H4 p5 (.tup rs) = H5 at s5 h5 ⊢
            have s05 := s04.trans s5
            refine ⟨.ref a, rfl, a, _, 2, x3, rfl, rfl, (Ex.same s05).tup hs, atI_nat (j := 2) rfl, hsp x3 b H5 _ _ (Rdd.ex (.same s05) _ r3) (oi b (List.mem_append_right _ (List.mem_singleton.mpr rfl))) fun r H6 s6 r6 => ⟨(by show 3 ≤ sizeLine; decide), fun p7 n7 => ?_⟩⟩
            have s7 := Same.new (o := .tup [V.str "let", .ref p5, r]) n7
            have s56 := s5.trans (s6.trans s7)
            rw [srt_L] at q
            refine q _ _ (s04.trans s56) (.tup (SqT.of upd_same) (.cons (.str _) (.cons (.tup (SqT.of ((s6.trans s7) _ _ h5)) (RddAll.ex (.same s56) _ rrs) ?_) (.cons (Rdd.ex (.same s7) _ r6) .nil))) (Nat.le_of_ble_eq_true rfl))
            unfold mkPs
            rw [List.length_map, (srtP_perm _).length_eq, List.length_map]
            omega
  intro n
  induction n with
  | zero => exact key 0 (fun _ _ _ _ => False) ok_false (fun _ _ _ _ _ _ h => h.elim)
  | succ n ih => exact key (n + 1) (spSorted K (n + 1)) ih (fun v d H Q E a b c => ⟨v, d, rfl, a, b, c⟩)
end
end Sl

set_option Elab.async false
set_option linter.all false
set_option maxRecDepth 100000
set_option maxHeartbeats 400000
namespace Sl
open PySem PySem.Spec PyProof.Rows L2 StX
abbrev sLWord : Stmt := topT 39
theorem scLWord : FnScope ["_law_stream_here", "_law_sign_here", "_law_some_here"] ["_law_stream_here", "_law_sign_here", "_law_some_here"] (defScope sLWord) := ⟨rfl, rfl, rfl, by decide +kernel, rfl, by decide +kernel, by decide +kernel⟩
section
variable {P : Program} {w : World} {K : PySem.W.Frag} {mg : Str → Option Value} {base : Heap} {fN fD fB fI : Addr} {fdN fdD fdB fdI : FuncData} {fO fCP fCN fU fWO fF : Addr} {fdO fdCP fdCN fdU fdWO fdF : FuncData} {fWd : Addr} {fdWd : FuncData} {fSt fDr fPk fMx : Addr} {fdSt fdDr fdPk fdMx : FuncData} {fLW : Addr} {fdLW : FuncData}
structure Lwd (K : PySem.W.Frag) (mg : Str → Option Value) (fWd fLW : Addr) (fdWd fdLW : FuncData) : Prop where
  FWd : Fun K "word" "word" sWord fWd fdWd
  gWd : mg "word" = some (.ref fWd)
  FLW : Fun K "_law_word" "_law_word" sLWord fLW fdLW
  bLW : Binds K fdLW ["_law_stream_here", "_law_sign_here", "_law_some_here"] []
  gLW : mg "_law_word" = some (.ref fLW)
def spLWord (K : PySem.W.Frag) : Sp := fun vs H Q _ => ∃ (a : Addr) (x : Str) (l : Addr) (us : List V) (ds : List D), vs = [V.ref a, .str x, .ref l] ∧ Stm a H ∧ l ≠ a ∧ H l = some (.lst us) ∧ RddAll K H us ds ∧ ds.length ≤ 3 ∧ nmOk x = true ∧ Okd (mkW x ds) ∧
  ∀ r H', Jst a H H' → Rdd K H' r (mkW x ds) → Q r H'
theorem ok_lword (W : Lwd K mg fWd fLW fdWd fdLW) (L : Lw K mg fSt fDr fPk fMx fdSt fdDr fdPk fdMx) (M : Mks K mg fO fCP fCN fU fWO fF fdO fdCP fdCN fdU fdWO fdF) (T : Fns K mg fN fD fB fI fdN fdD fdB fdI) (U : Tops K mg) (B : Bt mg) :
    FnOk P w K mg base CX0 8 fLW fdLW ["_law_stream_here", "_law_sign_here", "_law_some_here"] (spLWord K) := by
  have GD : FnOk P w K mg base CX0 1 fDr fdDr ["_law_stream_here", "_law_high"] spDraw := g_draw L B
  have GO : FnOk P w K mg base CX0 6 fWO fdWO ["name", "terms"] (spWordOf K) := ok_wordof M T U B
  have GW : FnR P w K mg base CX0 7 fWd (spWord K) := ok_word W.FWd M T U B
  refine W.FLW.ok scLWord (fun vs H Q E h => ?_) (fun cdv A outer s H vs Q E hr h => ?_)
  · obtain ⟨a, x, l, us, ds, rfl, _⟩ := h
    rfl
  · obtain ⟨a, x, l, us, ds, rfl, hs, hne, hl, ru, hd, hx, ho, q⟩ := h
    have h1 := hr.mono (by decide : 1 ≤ 7)
    have h6 := hr.mono (by decide : 6 ≤ 7)
    have sl := sizeLine_eq
    refine ⟨_, (pss_cons (ps_if (pt_cmpR op_eq (pe_call GD h1 (by rfl) L.gDr L.FDr.kp L.bDr .nil pass0 (pa_cons (pv 0) (pa_cons pe_int pa_nil))) pe_int (nomark _))
        (pss_one (ps_ret (pe_call GO h6 (by rfl) M.gWO M.FWO.kp M.bWO .nil pass0 (pa_cons (pv 1) (pa_cons (pe_callTy call_tuple_of (by rfl) B.tuple (by decide +kernel) (pa_cons (pv 2) pa_nil)) pa_nil)))))
        pss_nil)
      (pss_cons (ps_if (pt_cmpR op_eq (pe_callB call_len_seq (by rfl) B.len PySem.boot_len (pa_cons (pv 2) pa_nil)) pe_int (nomark _))
        (pss_one (ps_ret (pe_callR GW hr W.FWd.kp (by rfl) W.gWd pass0 (pa_cons (pv 1) pa_nil))))
        pss_nil)
      (pss_cons (ps_if (pt_cmpR op_eq (pe_callB call_len_seq (by rfl) B.len PySem.boot_len (pa_cons (pv 2) pa_nil)) pe_int (nomark _))
        (pss_one (ps_ret (pe_callR GW hr W.FWd.kp (by rfl) W.gWd pass0 (pa_cons (pv 1) (pa_cons (pe_ix ix_list (pv 2) pe_int (fun _ _ => rfl)) pa_nil)))))
        pss_nil)
      (pss_cons (ps_if (pt_cmpR op_eq (pe_callB call_len_seq (by rfl) B.len PySem.boot_len (pa_cons (pv 2) pa_nil)) pe_int (nomark _))
        (pss_one (ps_ret (pe_callR GW hr W.FWd.kp (by rfl) W.gWd pass0 (pa_cons (pv 1) (pa_cons (pe_ix ix_list (pv 2) pe_int (fun _ _ => rfl)) (pa_cons (pe_ix ix_list (pv 2) pe_int (fun _ _ => rfl)) pa_nil))))))
        pss_nil)
      (pss_one (ps_ret (pe_callR GW hr W.FWd.kp (by rfl) W.gWd pass0 (pa_cons (pv 1) (pa_cons (pe_ix ix_list (pv 2) pe_int (fun _ _ => rfl)) (pa_cons (pe_ix ix_list (pv 2) pe_int (fun _ _ => rfl)) (pa_cons (pe_ix ix_list (pv 2) pe_int (fun _ _ => rfl)) pa_nil))))))))))), ?_⟩
    refine ⟨.ref a, rfl, a, 2, rfl, hs, by decide, small_big (by decide), fun r H1 r0 r1 o1 hs1 => ?_⟩
    have j1 : Jst a H H1 := ⟨hs, hs1, o1⟩
    have hl1 := o1 l _ hne hl
    have ru1 := RddAll.ex ((jr_st a).ex j1) _ ru
    have fin : ∀ (z : V) (H2 : Hp), Same H1 H2 → Rdd K H2 z (mkW x ds) → Q z H2 := fun z H2 s2 rz => q z H2 (j1.trans (Jst.same hs1 s2)) rz
    refine ⟨rfl, _, rfl, ?_⟩
    rw [int_dec]
    by_cases e : r = 0
    · rw [decide_eq_true e]
      refine iteT ⟨.str x, rfl, .ref l, rfl, l, us, rfl, .inl ⟨SqL.of hl1, fun p np => ?_⟩⟩
      have s2 := Same.new (o := .tup us) np
      exact ⟨x, .ref p, ds, rfl, .tup (SqT.of upd_same) (RddAll.ex (.same s2) _ ru1) (by omega), hx, ho, fun z H3 s3 rz => fin z H3 (s2.trans s3) rz⟩
    · rw [decide_eq_false e]
      have lu := ru1.length
      refine iteF ⟨.ref l, rfl, l, us, rfl, .inl (SqL.of hl1), rfl, _, rfl, ?_⟩
      rw [int_dec]
      match us, ds, ru1, hd, lu, hl1, ho, fin with
      | [], [], ru1, hd, lu, hl1, ho, fin =>
        refine iteT ⟨.str x, rfl, x, [], [], rfl, ru1, by decide, hx, ho, fun z H3 s3 rz => fin z H3 s3 rz⟩
      | [u1], [d1], ru1, hd, lu, hl1, ho, fin =>
        refine iteF ⟨.ref l, rfl, l, [u1], rfl, .inl (SqL.of hl1), rfl, _, rfl, ?_⟩
        rw [int_dec]
        refine iteT ⟨.str x, rfl, .ref l, rfl, l, [u1], 0, u1, rfl, rfl, SqL.of hl1, atI_nat (j := 0) rfl, x, [u1], [d1], rfl, ru1, by simp, hx, ho, fun z H3 s3 rz => fin z H3 s3 rz⟩
      | [u1, u2], [d1, d2], ru1, hd, lu, hl1, ho, fin =>
        refine iteF ⟨.ref l, rfl, l, [u1, u2], rfl, .inl (SqL.of hl1), rfl, _, rfl, ?_⟩
        rw [int_dec]
        refine iteF ⟨.ref l, rfl, l, [u1, u2], rfl, .inl (SqL.of hl1), rfl, _, rfl, ?_⟩
        rw [int_dec]
        refine iteT ⟨.str x, rfl, .ref l, rfl, l, [u1, u2], 0, u1, rfl, rfl, SqL.of hl1, atI_nat (j := 0) rfl, .ref l, rfl, l, [u1, u2], 1, u2, rfl, rfl, SqL.of hl1, atI_nat (j := 1) rfl, x, [u1, u2], [d1, d2], rfl, ru1, by simp, hx, ho, fun z H3 s3 rz => fin z H3 s3 rz⟩
      | [u1, u2, u3], [d1, d2, d3], ru1, hd, lu, hl1, ho, fin =>
        refine iteF ⟨.ref l, rfl, l, [u1, u2, u3], rfl, .inl (SqL.of hl1), rfl, _, rfl, ?_⟩
        rw [int_dec]
        refine iteF ⟨.ref l, rfl, l, [u1, u2, u3], rfl, .inl (SqL.of hl1), rfl, _, rfl, ?_⟩
        rw [int_dec]
        refine iteF ⟨.str x, rfl, .ref l, rfl, l, [u1, u2, u3], 0, u1, rfl, rfl, SqL.of hl1, atI_nat (j := 0) rfl, .ref l, rfl, l, [u1, u2, u3], 1, u2, rfl, rfl, SqL.of hl1, atI_nat (j := 1) rfl, .ref l, rfl, l, [u1, u2, u3], 2, u3, rfl, rfl, SqL.of hl1, atI_nat (j := 2) rfl, x, [u1, u2, u3], [d1, d2, d3], rfl, ru1, by simp, hx, ho, fun z H3 s3 rz => fin z H3 s3 rz⟩
      | u1 :: u2 :: u3 :: u4 :: us, ds, ru1, hd, lu, hl1, ho, fin => simp only [List.length_cons] at lu; omega
      | [], _ :: _, ru1, hd, lu, hl1, ho, fin => cases lu
      | [_], [], ru1, hd, lu, hl1, ho, fin => cases lu
      | [_], _ :: _ :: _, ru1, hd, lu, hl1, ho, fin => simp at lu
      | [_, _], [], ru1, hd, lu, hl1, ho, fin => cases lu
      | [_, _], [_], ru1, hd, lu, hl1, ho, fin => simp at lu
      | [_, _], _ :: _ :: _ :: _, ru1, hd, lu, hl1, ho, fin => simp at lu
      | [_, _, _], [], ru1, hd, lu, hl1, ho, fin => cases lu
      | [_, _, _], [_], ru1, hd, lu, hl1, ho, fin => simp at lu
      | [_, _, _], [_, _], ru1, hd, lu, hl1, ho, fin => simp at lu
      | [_, _, _], _ :: _ :: _ :: _ :: _, ru1, hd, lu, hl1, ho, fin => simp at lu
end
end Sl

set_option Elab.async false
set_option linter.all false
set_option maxRecDepth 100000
set_option maxHeartbeats 400000
/-! ### def f(a, **d), called with keywords -/
namespace PySem.W
open PySem PySem.Spec PySem.Calls PyProof.Rows PyProof.V
section
variable {prog : Program} {w : World} {A : Around} {E : Value → Shared → Prop} {d : Addr}
theorem kq_nsSet {s : Shared} {es : List DictEntry} {n : Nat} {k : Str} {v : Value} {Q : Unit → Shared → Prop} (D : s.heap.get? d = some (dictOf es n))
    (hs : ∀ e ∈ es, e.key.isStr k = false) (hr : ∀ e ∈ es, e.refKey = false)
    (h : ∀ h', (∀ b o, b ≠ d → s.heap.get? b = some o → h'.get? b = some o) → h'.get? d = some (dictOf (es ++ [⟨PyData.keyHash w.params k, .str k s.toks, v⟩]) (n + 1)) → Q () { s with heap := h', toks := s.toks + 1 }) :
    wpAny (model prog w) A (nsSet d k v) Q E s := by
  have e1 : es.any (·.key.isStr k) = false := by
    cases q : es.any (·.key.isStr k) with
    | false => rfl
    | true => obtain ⟨e, he, z⟩ := List.any_eq_true.mp q; rw [hs e he] at z; cases z
  have e2 : es.any (·.refKey) = false := by
    cases q : es.any (·.refKey) with
    | false => rfl
    | true => obtain ⟨e, he, z⟩ := List.any_eq_true.mp q; rw [hr e he] at z; cases z
  have e : Obj.putName k (PyData.keyHash w.params k) (.str k s.toks) v (dictOf es n) = dictOf (es ++ [⟨PyData.keyHash w.params k, .str k s.toks, v⟩]) (n + 1) := by
    rw [putName_dict, putL_new hs]
    show dictOf _ (if es.any (·.key.isStr k) then n else n + 1) = _
    rw [e1, if_neg Bool.false_ne_true]
  have c : aRefKeyMayBeTheName k es.toArray = false := by
    rw [aRefKeyMayBeTheName_at, ← Array.any_toList, ← Array.any_toList]
    show (!es.any (·.key.isStr k) && es.any (·.refKey)) = false
    rw [e2, Bool.and_false]
  unfold nsSet
  refine wpAny_bind (wpAny_bind (wpAny_askSetting (wpAny_pure (wpAny_bind (wpAny_mkText (wpAny_bind (wpAny_loadPart D ?_)))))))
  dsimp only
  rw [c]
  refine wpAny_updatePart D (h _ (fun b o hb q => (Heap.get?_update_other _ _ (Ne.symm hb)).trans q) ?_)
  exact (Heap.get?_update_self _ D (show (Obj.putName k (PyData.keyHash w.params k) (.str k s.toks) v (dictOf es n)).isFreed = false by rw [e]; rfl)).trans (congrArg some e)
theorem kq_fill {Q : PUnit → Shared → Prop} : ∀ (ex : List (Str × Value)) (s : Shared) (es : List DictEntry) (n : Nat), s.heap.get? d = some (dictOf es n) →
    (∀ e ∈ es, ∀ x ∈ ex, e.key.isStr x.1 = false) → (∀ e ∈ es, e.refKey = false) → (ex.map (·.1)).Nodup →
    (∀ h', (∀ b o, b ≠ d → s.heap.get? b = some o → h'.get? b = some o) → h'.get? d = some (dictOf (es ++ kwEs w.params s.toks ex) (n + ex.length)) → Q ⟨⟩ { s with heap := h', toks := s.toks + ex.length }) →
    wpAny (model prog w) A (forIn ex PUnit.unit fun x _ => (nsSet d x.1 x.2 >>= fun _ => pure (ForInStep.yield PUnit.unit))) Q E s
  | [], s, es, n, D, _, _, _, h => by
    rw [List.forIn_nil]
    refine wpAny_pure (h s.heap (fun _ _ _ q => q) ?_)
    show s.heap.get? d = some (dictOf (es ++ []) n)
    rw [List.append_nil]
    exact D
  | x :: r, s, es, n, D, hs, hr, hn, h => by
    obtain ⟨hn1, hn2⟩ := List.nodup_cons.mp (show (x.1 :: r.map (·.1)).Nodup from hn)
    rw [List.forIn_cons]
    refine wpAny_bind (wpAny_bind (kq_nsSet D (fun e he => hs e he x (.head _)) hr fun h' k' D' => wpAny_pure ?_))
    show wpAny (model prog w) A (forIn r PUnit.unit fun x _ => (nsSet d x.1 x.2 >>= fun _ => pure (ForInStep.yield PUnit.unit))) Q E { s with heap := h', toks := s.toks + 1 }
    refine kq_fill r { s with heap := h', toks := s.toks + 1 } _ _ D' (fun e he y hy => ?_) (fun e he => ?_) hn2 fun h'' k'' D'' => ?_
    · rcases List.mem_append.mp he with he | he
      · exact hs e he y (.tail _ hy)
      · obtain rfl := List.mem_singleton.mp he
        show (x.1 == y.1) = false
        exact beq_eq_false_iff_ne.mpr fun q => hn1 (by rw [q]; exact List.mem_map_of_mem hy)
    · rcases List.mem_append.mp he with he | he
      · exact hr e he
      · obtain rfl := List.mem_singleton.mp he
        rfl
    · have t1 : s.toks + 1 + r.length = s.toks + (r.length + 1) := by omega
      have t2 : n + 1 + r.length = n + (r.length + 1) := by omega
      show Q ⟨⟩ { s with heap := h'', toks := s.toks + 1 + r.length }
      rw [t1]
      refine h h'' (fun b o hb q => k'' b o hb (k' b o hb q)) ?_
      rw [t2, List.append_assoc] at D''
      exact D''
end
end PySem.W
namespace Sl
open PySem PySem.Spec PyProof.Rows L2 StX
theorem kw_pairs {prog : Program} {w : World} : ∀ (ex : List (Str × Value)) (t : Tok), Pairs (mixKind prog w) (PySem.W.kwEs w.params t ex) (ex.map fun x => ((Sum.inr x.1 : Key), x.2))
  | [], _ => Pairs.nil
  | x :: r, t => Pairs.cons (keyIs_str x.1 t) rfl (kw_pairs r (t + 1))
theorem kw_dict {prog : Program} {w : World} {h : Heap} {d : Addr} {ex : List (Str × Value)} {t n : Nat} (hn : (ex.map (·.1)).Nodup) (D : h.get? d = some (PySem.W.dictOf (PySem.W.kwEs w.params t ex) n)) : h.DictOf (mixKind prog w) d (ex.map fun x => ((Sum.inr x.1 : Key), x.2)) := by
  refine ⟨_, (PySem.W.kwEs w.params t ex).toArray, n, D, ⟨rfl, rfl, rfl⟩, rfl, fun e he => ?_, kw_pairs ex t, ?_⟩
  · obtain ⟨k, u, hk, hh⟩ := PySem.W.kwEs_key ex t e (List.mem_toArray.mp he)
    exact ⟨Sum.inr k, by rw [hk]; exact keyIs_str k u, hh.trans rfl⟩
  · rw [List.map_map]
    have e : ((fun x : Key × Value => x.1) ∘ fun x : Str × Value => ((Sum.inr x.1 : Key), x.2)) = fun x => Sum.inr x.1 := rfl
    have e2 : ex.map (fun x => (Sum.inr x.1 : Key)) = (ex.map (·.1)).map (Sum.inr : Str → Key) := by rw [List.map_map]; rfl
    rw [e, e2]
    exact hn.map _ fun a b h => fun z => h (Sum.inr.inj z)
end Sl

set_option Elab.async false
set_option linter.all false
set_option maxRecDepth 100000
set_option maxHeartbeats 400000
namespace Sl
open PySem PySem.Spec PyProof.Rows L2 StX
abbrev emptyD : Obj := { cls := .type "dict", data := .dict #[] }
/-- a promise of a call with keywords ns -/
def FnKw (P : Program) (w : World) (K : PySem.W.Frag) (mg : Str → Option Value) (base : Heap) (CX : CXT) (k : Nat) (f : Addr) (ns : List Str) (sp : List V → List V → Hp → VK → XK → Prop) : Prop :=
  ∀ (A : Around) (outer : List Env) (s : Shared) (H : Hp) (us ks : List Value) (vs zs : List V) (Q : VK) (E : XK), Room k A → Env0 P w K mg base A outer s H → Vals vs us → Vals zs ks → sp vs zs H Q E →
    codeAny (model P w) A (.call (.ref f) ⟨us, ns.zip ks⟩) (CR CX outer P w H s Q E) s
section
variable {X : Cx} {CX : CXT} {k : Nat} {f : Addr} {ns : List Str} {sp : List V → List V → Hp → VK → XK → Prop} {E : XK} {x : Str} {p pos : Pos} {e : Expr} {es : List Expr} {kws : List Keyword} {t tk : TA}
/-- f(e, .., k = v, ..) -/
theorem pe_callKw (F : FnKw X.prog X.w X.K X.mg X.base CX k f ns sp) (hr : Room k X.A) (hk : PySem.W.keepIn X.K (.ref f) = true) (hg : Gl X x) (hm : X.mg x = some (.ref f)) (hx : Passes CX X E)
    (ha : PA X (e :: es) t) (hkw : PK X kws tk) (hall : (backToKw pos (keywordEach kws X.env)).all (·.1.isSome) = true := by rfl) (hks : (backToKw pos (keywordEach kws X.env)).filterMap (·.1) = ns := by rfl)
    (hdb : (x == ("__debug__" : Str)) = false := by decide) (he : starEach (e :: es) X.env = (false, eval e X.env) :: starEach es X.env := by rfl)
    (hpl : ((backTo pos (starEach (e :: es) X.env)).any (·.1) || (backToKw pos (keywordEach kws X.env)).any (·.1.isNone)) = false := by rfl) :
    PE X (.Call (.Name x p) (e :: es) kws pos) (fun σ H Q => t σ H fun vs H1 => tk σ H1 fun zs H2 => sp vs zs H2 Q E) := by
  refine ⟨fun pins s σ H Q I h => ?_⟩
  refine wpAny_Call_Name_kw (ld_glob I hg hm ?_ hdb)
  refine PySem.W.callWith_KW (h₀ := X.base) I.ok.mod.kin hk hall (thn (ha.run pos pins s σ H _ I h) fun us s1 ⟨vs, H1, I1, r, q⟩ => ?_) hpl he
  refine thn (hkw.run pos pins s1 σ H1 _ I1 q) fun ws s2 ⟨zs, H2, I2, rz, q2⟩ => ⟨I2.kIn, ?_⟩
  rw [hks]
  refine wpAny_call (codeAny_mono (F X.A X.stack s2 H2 us ws vs zs Q E hr I2.env0 r rz q2) fun r s' hq => ?_)
  cases r with
  | error e => exact hx pins σ H2 s2 e s' I2 hq
  | ok fl =>
    cases fl with
    | ret u => exact I2.after hq
    | next => exact False.elim hq
    | brk => exact False.elim hq
    | cont => exact False.elim hq
end
theorem kv_zip : ∀ {ns : List Str} {zs : List V} {ks : List Value}, Vals zs ks → KV ((ns.map (Sum.inr : Str → Key)).zip zs) ((ns.zip ks).map fun x => ((Sum.inr x.1 : Key), x.2))
  | [], _, _, _ => .nil
  | _ :: _, [], _, r => by
    cases r
    exact .nil
  | n :: ns, z :: zs, _, r => by
    cases r with
    | cons a b => exact .cons ⟨rfl, a⟩ (kv_zip b)
section
variable {P : Program} {w : World} {K : PySem.W.Frag} {mg : Str → Option Value} {base : Heap} {A : Around} {outer : List Env} {s : Shared} {H : Hp}
theorem env0_laid' {h' : Heap} {tk : Nat} {u : HO} (e0 : Env0 P w K mg base A outer s H) (kp : ∀ b x, s.heap.get? b = some x → h'.get? b = some x) (there : ∃ o, h'.get? s.heap.objs.size = some o) (new : ObjOk P w (upd H s.heap.objs.size u) h' s.heap.objs.size u) :
    Env0 P w K mg base A outer { s with heap := h', toks := tk } (upd H s.heap.objs.size u) := by
  refine ⟨e0.frames, e0.mod, fun b x e => ⟨kp b x (e0.bs b x e).1, ?_⟩, ?_, Heap.FunFrames.of_keeps (fun b x e _ => ⟨x, kp b x e, rfl⟩) e0.funs, fun b hb => ?_, e0.hok.laid kp (Nat.le_refl _) new, e0.bare⟩
  · rw [upd_ne (Nat.ne_of_lt (Heap.lt_size (e0.bs b x e).1))]
    exact (e0.bs b x e).2
  · show base.objs.size ≤ h'.objs.size
    obtain ⟨o, ho⟩ := there
    exact Nat.le_trans e0.bsz (Nat.le_of_lt (Heap.lt_size ho))
  · obtain ⟨_, x, hx, _⟩ := e0.funs.mem hb
    rw [upd_ne (Nat.ne_of_lt (Heap.lt_size hx))]
    exact e0.frf b hb
end
section
variable {CX : CXT} {P : Program} {w : World} {K : PySem.W.Frag} {mg : Str → Option Value} {base : Heap} {k : Nat} {f : Addr} {name qual : Str} {params : Arguments} {body : List Stmt} {scope : Scope} {dV kV doc pm cdv ct oc : Value} {an od : Option Addr}
  {osl : Array (Option Value)} {N : List Str} {sp : Sp}
/-- def f(a, **d), called with keywords -/
theorem fn_kwd {p1 pd : Str} {ns : List Str} (lk : K.lookup f = some ⟨oc, od, .func (PySem.W.fnOf name qual params body scope dV kV doc pm an cdv ct), osl⟩) (hcd : PySem.W.codeIn K cdv qual = true) (S : FnScope N [p1, pd] scope) (hCX : CXUp CX) (nn : ns.Nodup) (nz : ns.length ≤ 1000)
    (hb : ∀ (u : Value) (ks : List Value), ks.length = ns.length → bindArgs (PySem.W.fnOf name qual params body scope dV kV doc pm an cdv ct) ⟨[u], ns.zip ks⟩ =
      ((alloc emptyD : Sem Addr) >>= fun d => (forIn (ns.zip ks) PUnit.unit fun x _ => (nsSet d x.1 x.2 >>= fun _ => pure (ForInStep.yield PUnit.unit))) >>= fun _ => pure [(p1, u), (pd, Value.ref d)]))
    (hbody : ∀ (A : Around) (outer : List Env) (s : Shared) (H : Hp) (vs : List V) (Q : VK) (E : XK), Room k (A.deeper (envOfC qual scope s.heap.objs.size f cdv)) → sp vs H Q E →
      ∃ t, PSs (cxOf CX P w K mg base N qual scope f cdv A outer s H E) body t ∧ t { nx := fun _ H' => Q .non H', rt := Q } (L2.start N vs) H) :
    FnKw P w K mg base CX (k + 1) f ns (fun vs zs H Q E => ∃ v, vs = [v] ∧ zs.length = ns.length ∧ ∀ d, H d = Option.none → sp [v, V.ref d] (upd H d (.dK ((ns.map (Sum.inr : Str → Key)).zip zs))) Q E) := by
  intro A outer s H us ks vs zs Q E hr e0 r rz hsp
  obtain ⟨v, ev, hl, hq⟩ := hsp
  subst ev
  obtain ⟨u, rfl, ru⟩ := vals1 r
  have hn : H s.heap.objs.size = Option.none := e0.hok.fresh (Nat.le_refl _)
  have hlk : ks.length = ns.length := by rw [← rz.length]; exact hl
  have sl := sizeLine_eq
  refine run_bnd lk hcd S hr e0 (G := fun xs H2 => ∃ p, H p = Option.none ∧ xs = [v, V.ref p] ∧ H2 = upd H p (.dK ((ns.map (Sum.inr : Str → Key)).zip zs))) (fun A' Ex Q' h => ?_) fun s2 H2 xs ⟨p, hp, ex, eH⟩ hr' => ?_
  · rw [hb u ks hlk]
    have nd : ((ns.zip ks).map (·.1)).Nodup := by
      rw [List.map_fst_zip (by omega)]
      exact nn
    refine wpAny_bind (wpAny_alloc ?_)
    refine wpAny_bind (PySem.W.kq_fill (ns.zip ks) { s with heap := s.heap.push emptyD } [] 0 (Heap.get?_push_size _ rfl) (fun _ he => nomatch he) (fun _ he => nomatch he) nd fun h' kp D => wpAny_pure ?_)
    have kp0 : ∀ b o, s.heap.get? b = some o → h'.get? b = some o := fun b o q => kp b o (Nat.ne_of_lt (Heap.lt_size q)) (Heap.get?_push_of_some _ q)
    have DD := kw_dict (prog := P) nd D
    have new : ObjOk P w (upd H s.heap.objs.size (.dK ((ns.map (Sum.inr : Str → Key)).zip zs))) h' s.heap.objs.size (.dK ((ns.map (Sum.inr : Str → Key)).zip zs)) :=
      dk_new (by rw [List.length_zip, List.length_map]; omega) (beq_eq_false_iff_ne.mpr (Ne.symm (Nat.ne_of_lt (env0_big e0)))) (kv_zip rz) DD
    have un : Un (frs outer) [] H (upd H s.heap.objs.size (.dK ((ns.map (Sum.inr : Str → Key)).zip zs))) s.heap h' := Un.laid kp0 (Nat.le_refl _) hn
    exact h { s with heap := h', toks := s.toks + (ns.zip ks).length } _ [v, V.ref s.heap.objs.size] [u, Value.ref s.heap.objs.size] (env0_laid' e0 kp0 ⟨_, D⟩ new) un rfl (fun e s' => hCX outer s H _ _ E e s' un kp0 rfl) (.cons ru (.cons rfl .nil)) rfl ⟨_, hn, rfl, rfl⟩
  · subst ex eH
    exact hbody A outer s2 _ _ Q E hr' (hq p hp)
end
end Sl

set_option Elab.async false
set_option linter.all false
set_option maxRecDepth 100000
set_option maxHeartbeats 400000
namespace Sl
open PySem PySem.Spec PyProof.Rows L2 StX
theorem scLet : FnScope ["term", "definitions"] ["term", "definitions"] (defScope sLet) := ⟨rfl, rfl, rfl, by decide +kernel, rfl, by decide +kernel, by decide +kernel⟩
section
variable {P : Program} {w : World} {K : PySem.W.Frag} {mg : Str → Option Value} {base : Heap} {fN fD fB fI : Addr} {fdN fdD fdB fdI : FuncData} {fO fCP fCN fU fWO fF : Addr} {fdO fdCP fdCN fdU fdWO fdF : FuncData} {fLt fLO : Addr} {fdLt fdLO : FuncData}
structure Llt (K : PySem.W.Frag) (mg : Str → Option Value) (fLt fLO : Addr) (fdLt fdLO : FuncData) : Prop where
  FLt : Fun K "let" "let" sLet fLt fdLt
  gLt : mg "let" = some (.ref fLt)
  FLO : Fun K "let_of" "let_of" sLetOf fLO fdLO
  bLO : Binds K fdLO ["term", "definitions"] []
  gLO : mg "let_of" = some (.ref fLO)
def spLet (K : PySem.W.Frag) (ns : List Str) : List V → List V → Hp → VK → XK → Prop := fun vs zs H Q _ => ∃ v b ds, vs = [v] ∧ Rdd K H v b ∧ RddAll K H zs ds ∧ ds.length = ns.length ∧ DefOk (ns.zip ds) ∧ Okd (mkL (srtP (ns.zip ds)) b) ∧ ∀ r H', Same H H' → Rdd K H' r (mkL (srtP (ns.zip ds)) b) → Q r H'
theorem zip_fst' {ns : List Str} {ds : List D} (h : ds.length = ns.length) : (ns.zip ds).map (·.1) = ns := List.map_fst_zip (by omega)
theorem zip_snd' {ns : List Str} {ds : List D} (h : ds.length = ns.length) : (ns.zip ds).map (·.2) = ds := List.map_snd_zip (by omega)
theorem ok_let_ (Z : Llt K mg fLt fLO fdLt fdLO) (M : Mks K mg fO fCP fCN fU fWO fF fdO fdCP fdCN fdU fdWO fdF) (T : Fns K mg fN fD fB fI fdN fdD fdB fdI) (U : Tops K mg) (B : Bt mg) {ns : List Str} (nn : ns.Nodup) (nz : ns.length ≤ 63)
    (hb : ∀ kV doc pm an cdv ct (u : Value) (ks : List Value), ks.length = ns.length → bindArgs (PySem.W.fnOf "let" "let" (defArgs sLet) (defBody sLet) (defScope sLet) .none kV doc pm an cdv ct) ⟨[u], ns.zip ks⟩ =
      ((alloc emptyD : Sem Addr) >>= fun d => (forIn (ns.zip ks) PUnit.unit fun x _ => (nsSet d x.1 x.2 >>= fun _ => pure (ForInStep.yield PUnit.unit))) >>= fun _ => pure [(("term" : Str), u), (("definitions" : Str), Value.ref d)])) :
    FnKw P w K mg base CX0 7 fLt ns (spLet K ns) := by
  have GL : FnOk P w K mg base CX0 6 fLO fdLO ["term", "definitions"] (spLetOf K) := ok_letof Z.FLO M T U B
  obtain ⟨oc, od, kV, doc, pm, an, cdv, ct, osl, rfl, lk, hcd⟩ := Z.FLt.ex
  have R := fn_kwd (P := P) (w := w) (mg := mg) (base := base) (CX := CX0) (k := 6) (sp := spLetOf K) (p1 := "term") (pd := "definitions") (ns := ns) (N := ["term", "definitions"]) lk hcd scLet cxUp_none nn (by omega) (hb kV doc pm an cdv ct) (fun A outer s H vs Q E hr h => by
    obtain ⟨v, b, a, ps, rfl, hv, hd, h64, hok, ho, q⟩ := h
    refine ⟨_, pss_one (ps_ret (pe_call GL hr (by rfl) Z.gLO Z.FLO.kp Z.bLO .nil pass0 (pa_cons (pv 0) (pa_cons (pv 1) pa_nil)))), ?_⟩
    exact ⟨_, rfl, _, rfl, v, b, a, ps, rfl, hv, hd, h64, hok, ho, q⟩)
  intro A outer s H us ks vs zs Q E hr e0 r rz h
  refine R A outer s H us ks vs zs Q E hr e0 r rz ?_
  obtain ⟨v, b, ds, rfl, hv, hz, hl, hok, ho, q⟩ := h
  have lz := hz.length
  refine ⟨v, rfl, by omega, fun d nd => ?_⟩
  have s1 := Same.new (o := .dK ((ns.map (Sum.inr : Str → Key)).zip zs)) nd
  refine ⟨v, b, d, ns.zip ds, rfl, Rdd.ex (.same s1) _ hv, ⟨_, upd_same, ?_, ?_⟩, by rw [List.length_zip]; omega, hok, ho, fun r' H' s' r2 => q r' H' (s1.trans s') r2⟩
  · rw [List.map_fst_zip (by rw [List.length_map]; omega), ← zip_fst' hl, List.map_map]
    rw [zip_fst' hl]
    rfl
  · rw [List.map_snd_zip (by rw [List.length_map]; omega), zip_snd' hl]
    exact RddAll.ex (.same s1) _ hz
theorem ok_let1 (Z : Llt K mg fLt fLO fdLt fdLO) (M : Mks K mg fO fCP fCN fU fWO fF fdO fdCP fdCN fdU fdWO fdF) (T : Fns K mg fN fD fB fI fdN fdD fdB fdI) (U : Tops K mg) (B : Bt mg) : FnKw P w K mg base CX0 7 fLt ["x"] (spLet K ["x"]) :=
  ok_let_ Z M T U B (by decide +kernel) (by decide) fun kV doc pm an cdv ct u ks h => by
    match ks, h with
    | [k1], _ => rfl
theorem ok_let2 (Z : Llt K mg fLt fLO fdLt fdLO) (M : Mks K mg fO fCP fCN fU fWO fF fdO fdCP fdCN fdU fdWO fdF) (T : Fns K mg fN fD fB fI fdN fdD fdB fdI) (U : Tops K mg) (B : Bt mg) : FnKw P w K mg base CX0 7 fLt ["z", "y"] (spLet K ["z", "y"]) :=
  ok_let_ Z M T U B (by decide +kernel) (by decide) fun kV doc pm an cdv ct u ks h => by
    match ks, h with
    | [k1, k2], _ => rfl
theorem ok_let3 (Z : Llt K mg fLt fLO fdLt fdLO) (M : Mks K mg fO fCP fCN fU fWO fF fdO fdCP fdCN fdU fdWO fdF) (T : Fns K mg fN fD fB fI fdN fdD fdB fdI) (U : Tops K mg) (B : Bt mg) : FnKw P w K mg base CX0 7 fLt ["a", "b"] (spLet K ["a", "b"]) :=
  ok_let_ Z M T U B (by decide +kernel) (by decide) fun kV doc pm an cdv ct u ks h => by
    match ks, h with
    | [k1, k2], _ => rfl
end
end Sl

set_option Elab.async false
set_option linter.all false
set_option maxRecDepth 100000
set_option maxHeartbeats 400000
namespace Sl
open PySem PySem.Spec PyProof.Rows L2
/-! ### lists of names, compared -/
theorem eqv_strs : ∀ xs ys : List Str, PyData.eqvAll (xs.map PyData.str) (ys.map PyData.str) = decide (xs = ys)
  | [], [] => rfl
  | [], _ :: _ => by simp [PyData.eqvAll]
  | _ :: _, [] => by simp [PyData.eqvAll]
  | x :: xs, y :: ys => by
    rw [List.map_cons, List.map_cons, PyData.eqvAll, eqv_strs xs ys]
    by_cases h : x = y
    · subst h
      simp [PyData.eqv]
    · simp [PyData.eqv, h]
theorem eq_strs {K : PySem.W.Frag} {H : Hp} {l p : Addr} {xs ys : List Str} {Q : VK} (ok : ∀ x ∈ xs, nmOk x = true) (oy : ∀ x ∈ ys, nmOk x = true) (h : SqL K H l (xs.map V.str)) (hp : SqL K H p (ys.map V.str)) (q : Q (.bl (decide (xs = ys))) H) : rEqD K (.ref l) (.ref p) H Q := by
  have sh : ∀ zs : List Str, (∀ x ∈ zs, nmOk x = true) → SeqAt.shaped (PyData.list (zs.map PyData.str)) = true := fun zs oz => by
    unfold SeqAt.shaped
    have c : (PyData.list (zs.map PyData.str)).canLay0 = true := by
      simp only [PyData.canLay0]
      exact strs_lay zs oz
    have d : (PyData.list (zs.map PyData.str)).depth ≤ 64 := by
      simp only [PyData.depth]
      rw [strs_depth]
      omega
    rw [c, decide_eq_true d]
    rfl
  refine ⟨.list (xs.map PyData.str), .list (ys.map PyData.str), .lst h (strs_dp xs), .lst hp (strs_dp ys), sh xs ok, sh ys oy, ?_⟩
  have e : PyData.eqv (.list (xs.map PyData.str)) (.list (ys.map PyData.str)) = decide (xs = ys) := by
    rw [PyData.eqv, eqv_strs]
  rw [e]
  exact q
/-! ### a dict of pairs -/
theorem put_new {kvs : List (Key × V)} {k : Key} {v : V} (h : k ∉ kvs.map (·.1)) : putK kvs k v = kvs ++ [(k, v)] := by
  unfold putK
  rw [if_neg]
  intro e
  obtain ⟨x, hx, ex⟩ := List.any_eq_true.mp e
  exact h (List.mem_map.mpr ⟨x, hx, of_decide_eq_true ex⟩)
theorem merge_new : ∀ {kvs acc : List (Key × V)}, (acc.map (·.1) ++ kvs.map (·.1)).Nodup → mergeK acc kvs = acc ++ kvs
  | [], acc, _ => by
    show acc = acc ++ []
    rw [List.append_nil]
  | kv :: kvs, acc, h => by
    show mergeK (putK acc kv.1 kv.2) kvs = _
    have h' := List.nodup_append.mp h
    rw [put_new fun z => h'.2.2 _ z _ List.mem_cons_self rfl, merge_new]
    · rw [List.append_assoc]
      rfl
    · rw [List.map_append, List.append_assoc]
      exact h
theorem pairs_kvs {K : PySem.W.Frag} {H : Hp} : ∀ {qs : List (Str × D)} {ys : List V}, RddAll K H ys (mkPs qs) → ∃ (as : List Addr) (kvs : List (Key × V)), ys = as.map V.ref ∧ Paired (fun p kv => SqT K H p [kV kv.1, kv.2]) as kvs ∧ kvs.map (·.1) = qs.map (fun q => Sum.inr q.1) ∧ RddAll K H (kvs.map (·.2)) (qs.map (·.2))
  | [], _, h => by
    cases h
    exact ⟨[], [], rfl, .nil, rfl, .nil⟩
  | q :: qs, _, h => by
    cases h with
    | cons h1 h2 =>
      obtain ⟨as, kvs, rfl, p, e, r⟩ := pairs_kvs h2
      obtain ⟨a, us, rfl, ha, hu, _⟩ := h1.tupd'
      obtain ⟨x1, x2, rfl, r1, r2⟩ := hu.pair
      cases r1
      exact ⟨a :: as, (.inr q.1, x2) :: kvs, rfl, .cons ha p, by rw [List.map_cons, e, List.map_cons], .cons r2 r⟩
theorem defD_new {K : PySem.W.Frag} {H : Hp} {p : Addr} {kvs : List (Key × V)} {qs : List (Str × D)} (n : H p = none) (nd : (qs.map (·.1)).Nodup) (e : kvs.map (·.1) = qs.map (fun q => Sum.inr q.1)) (r : RddAll K H (kvs.map (·.2)) (qs.map (·.2))) :
    DefD K (upd H p (.dK (mergeK [] kvs))) p qs := by
  have nk : (kvs.map (·.1)).Nodup := by
    have e2 : qs.map (fun q => (Sum.inr q.1 : Key)) = (qs.map (·.1)).map (Sum.inr : Str → Key) := by rw [List.map_map]; rfl
    rw [e, e2]
    exact nd.map _ fun a b h => fun z => h (Sum.inr.inj z)
  rw [merge_new (acc := []) (by simpa using nk), List.nil_append]
  exact ⟨kvs, upd_same, e, RddAll.ex (.same (Same.new n)) _ r⟩
/-! ### a dict emptied beside open terms -/
mutual
def D.pure : D → Bool
  | .tup ds => D.pures ds
  | .lst => false
  | .dct => false
  | _ => true
def D.pures : List D → Bool
  | [] => true
  | d :: ds => d.pure && D.pures ds
end
mutual
theorem Rdd.keep {K : PySem.W.Frag} {G G' : Hp} (k : ∀ b xs, SqT K G b xs → SqT K G' b xs) : ∀ (d : D) {v : V}, d.pure = true → Rdd K G v d → Rdd K G' v d
  | .non, _, _, h => by cases h; exact .non
  | .bl b, _, _, h => by cases h; exact .bl b
  | .int i, _, _, h => by cases h; exact .int i
  | .str x, _, _, h => by cases h; exact .str x
  | .tup ds, _, g, h => by
    simp only [D.pure] at g
    cases h with
    | tup hs ha hl => exact .tup (k _ _ hs) (RddAll.keep k ds g ha) hl
  | .lst, _, g, _ => by simp [D.pure] at g
  | .dct, _, g, _ => by simp [D.pure] at g
theorem RddAll.keep {K : PySem.W.Frag} {G G' : Hp} (k : ∀ b xs, SqT K G b xs → SqT K G' b xs) : ∀ (ds : List D) {vs : List V}, D.pures ds = true → RddAll K G vs ds → RddAll K G' vs ds
  | [], _, _, h => by cases h; exact .nil
  | d :: ds, _, g, h => by
    simp only [D.pures, Bool.and_eq_true] at g
    cases h with
    | cons h1 h2 => exact .cons (Rdd.keep k d g.1 h1) (RddAll.keep k ds g.2 h2)
end
theorem pures_of : ∀ {ds : List D}, (∀ d ∈ ds, d.pure = true) → D.pures ds = true
  | [], _ => by simp [D.pures]
  | d :: ds, h => by
    simp only [D.pures, Bool.and_eq_true]
    exact ⟨h d List.mem_cons_self, pures_of fun x hx => h x (List.mem_cons_of_mem _ hx)⟩
theorem opn_pure : ∀ {n : Nat} {d : D}, OpN n d → d.pure = true
  | 0, _, h => h.elim
  | n + 1, d, h => by
    have om := OpN.s.mp h
    rcases built_cases om.1.1 with ⟨x, rfl, _⟩ | ⟨x, l0, rfl, hx, hl0⟩ | ⟨x, b, rfl, hx⟩ | ⟨ps, b, rfl, hp⟩
    · simp [mkU, D.pure, D.pures]
    · have := om.2
      rw [inn_W] at this
      have e := pures_of fun d hd => opn_pure (this d hd)
      simp [mkW, D.pure, D.pures, e]
    · have := om.2
      rw [inn_F] at this
      have e := opn_pure (this b (List.mem_singleton.mpr rfl))
      simp [mkF, D.pure, D.pures, e]
    · have := om.2
      rw [inn_L] at this
      have e := opn_pure (this b (List.mem_append_right _ (List.mem_singleton.mpr rfl)))
      have e2 : D.pures (mkPs ps) = true := pures_of fun d hd => by
        obtain ⟨p, hp, rfl⟩ := List.mem_map.mp hd
        have := opn_pure (this p.2 (List.mem_append_left _ (List.mem_map.mpr ⟨p, hp, rfl⟩)))
        simp [D.pure, D.pures, this]
      simp [mkL, D.pure, D.pures, e, e2]
theorem sqT_dict {K : PySem.W.Frag} {H : Hp} {p : Addr} {kvs kvs' : List (Key × V)} (hp : H p = some (.dK kvs)) : ∀ b xs, SqT K H b xs → SqT K (upd H p (.dK kvs')) b xs := by
  intro b xs h
  by_cases e : b = p
  · rcases h with (h | ⟨o, h⟩) | h
    · rw [e, hp] at h
      cases h
    · rw [e, hp] at h
      cases h
    · exact .inr h
  · rcases h with (h | ⟨o, h⟩) | h
    · exact .inl (.inl (by rw [upd_ne e]; exact h))
    · exact .inl (.inr ⟨o, by rw [upd_ne e]; exact h⟩)
    · exact .inr h
theorem two_perm {α : Type} {l : List α} {x y : α} (hl : l.length = 2) (hx : x ∈ l) (hy : y ∈ l) (ne : x ≠ y) : [x, y].Perm l := by
  match l, hl with
  | [a, b], _ =>
    simp only [List.mem_cons, List.not_mem_nil, or_false] at hx hy
    rcases hx with rfl | rfl
    · rcases hy with rfl | rfl
      · exact absurd rfl ne
      · exact List.Perm.refl _
    · rcases hy with rfl | rfl
      · exact List.Perm.swap _ _ _
      · exact absurd rfl ne
end Sl

set_option Elab.async false
set_option linter.all false
set_option maxRecDepth 100000
set_option maxHeartbeats 400000
namespace Sl
open PySem PySem.Spec PyProof.Rows L2 StX
abbrev sMade : Stmt := topT 40
abbrev nMade : List Str := ["_law_stream_here", "_law_part_here", "_law_some_here", "_law_names", "_law_rows", "_law_found", "_law_inner_here", "_law_name_here"]
theorem scMade : FnScope nMade ["_law_stream_here", "_law_part_here"] (defScope sMade) := ⟨rfl, rfl, rfl, by decide +kernel, rfl, by decide +kernel, by decide +kernel⟩
section
variable {P : Program} {w : World} {K : PySem.W.Frag} {mg : Str → Option Value} {base : Heap} {fN fD fB fI : Addr} {fdN fdD fdB fdI : FuncData} {fO fCP fCN fU fWO fF : Addr} {fdO fdCP fdCN fdU fdWO fdF : FuncData} {fLt fLO : Addr} {fdLt fdLO : FuncData} {fWd : Addr} {fdWd : FuncData} {fSt fDr fPk fMx : Addr} {fdSt fdDr fdPk fdMx : FuncData} {fLW : Addr} {fdLW : FuncData} {fIn fPa : Addr} {fdIn fdPa : FuncData} {fMd : Addr} {fdMd : FuncData}
structure Lmd (K : PySem.W.Frag) (mg : Str → Option Value) (fMd : Addr) (fdMd : FuncData) : Prop where
  FMd : Fun K "_law_made" "_law_made" sMade fMd fdMd
  bMd : Binds K fdMd ["_law_stream_here", "_law_part_here"] []
  gMd : mg "_law_made" = some (.ref fMd)
def spMade (K : PySem.W.Frag) (n : Nat) : Sp := fun vs H Q _ => ∃ (a : Addr) (v : V) (d : D), vs = [V.ref a, v] ∧ Stm a H ∧ Rdd K H v d ∧ OpN n d ∧ n ≤ 120 ∧ cnt n d ≤ 500 ∧ ∀ r H', Jst a H H' → Rdd K H' r (srtD n d) → Q r H'
theorem zip_pm (f : D → D) : ∀ ps : List (Str × D), (ps.map (·.1)).zip ((ps.map (·.2)).map f) = ps.map fun p => (p.1, f p.2)
  | [] => rfl
  | p :: ps => by
    rw [List.map_cons, List.map_cons, List.map_cons, List.map_cons, List.zip_cons_cons, zip_pm f ps]
theorem cnt_inn {n : Nat} {d e : D} (h : e ∈ inn d) : cnt n e ≤ cnt (n + 1) d := by
  rw [cnt_s]
  have : ∀ l : List D, e ∈ l → cnt n e ≤ (l.map (cnt n)).sum := by
    intro l
    induction l with
    | nil => intro h; cases h
    | cons x l ih =>
      intro h
      rw [List.map_cons, List.sum_cons]
      rcases List.mem_cons.mp h with rfl | h
      · omega
      · have := ih h
        omega
  have := this _ h
  omega
theorem okd_srt {n : Nat} {d : D} (h : OpN n d) (hn : n ≤ 120) (hc : cnt n d ≤ 500) : Okd (srtD n d) := by
  have := srt_ok n d h
  exact ⟨n, hn, this.1, by rw [this.2]; exact hc⟩
theorem ok_made (D' : Lmd K mg fMd fdMd) (Z : Llt K mg fLt fLO fdLt fdLO) (W : Lwd K mg fWd fLW fdWd fdLW) (L : Lw K mg fSt fDr fPk fMx fdSt fdDr fdPk fdMx) (V' : Lp K mg fIn fPa fdIn fdPa) (M : Mks K mg fO fCP fCN fU fWO fF fdO fdCP fdCN fdU fdWO fdF) (T : Fns K mg fN fD fB fI fdN fdD fdB fdI) (U : Tops K mg) (B : Bt mg) :
    ∀ n, FnOk P w K mg base CX0 (n + 9) fMd fdMd ["_law_stream_here", "_law_part_here"] (spMade K (n + 1)) := by
  have GI : FnOk P w K mg base CX0 1 fIn fdIn ["_law_part_here"] (spInn K) := ok_inner V' B
  have GD : FnOk P w K mg base CX0 1 fDr fdDr ["_law_stream_here", "_law_high"] spDraw := g_draw L B
  have GX : FnOk P w K mg base CX0 2 fMx fdMx ["_law_stream_here", "_law_items"] (spMixed K) := ok_mixed L B
  have GU : FnOk P w K mg base CX0 3 fU fdU ["name"] (spUse K) := ok_use M T U B
  have GF : FnOk P w K mg base CX0 6 fF fdF ["variable", "term"] (spFun K) := ok_fun M T U B
  have GL : FnOk P w K mg base CX0 6 fLO fdLO ["term", "definitions"] (spLetOf K) := ok_letof Z.FLO M T U B
  have GW : FnOk P w K mg base CX0 8 fLW fdLW ["_law_stream_here", "_law_sign_here", "_law_some_here"] (spLWord K) := ok_lword W L M T U B
  have G1 : FnKw P w K mg base CX0 7 fLt ["x"] (spLet K ["x"]) := ok_let1 Z M T U B
  have G2 : FnKw P w K mg base CX0 7 fLt ["z", "y"] (spLet K ["z", "y"]) := ok_let2 Z M T U B
  have key : ∀ (n : Nat) (sp : Sp), FnOk P w K mg base CX0 (n + 8) fMd fdMd ["_law_stream_here", "_law_part_here"] sp →
      (∀ (a : Addr) (v : V) (d : D) (H : Hp) (Q : VK) (E : XK), Stm a H → Rdd K H v d → OpN n d → n ≤ 120 → cnt n d ≤ 500 → (∀ r H', Jst a H H' → Rdd K H' r (srtD n d) → Q r H') → sp [V.ref a, v] H Q E) →
      FnOk P w K mg base CX0 (n + 9) fMd fdMd ["_law_stream_here", "_law_part_here"] (spMade K (n + 1)) := by
    intro n sp GM hsp
    refine D'.FMd.ok scMade (fun vs H Q E h => ?_) (fun cdv A outer s H vs Q E hr h => ?_)
    · obtain ⟨a, v, d, rfl, _⟩ := h
      rfl
    · obtain ⟨a, v, d, rfl, hst, hv, ho, hn, hc, q⟩ := h
      have h1 := hr.mono (by omega : 1 ≤ n + 8)
      have h2 := hr.mono (by omega : 2 ≤ n + 8)
      have h3 := hr.mono (by omega : 3 ≤ n + 8)
      have h6 := hr.mono (by omega : 6 ≤ n + 8)
      have h7 := hr.mono (by omega : 7 ≤ n + 8)
      have h8 := hr.mono (by omega : 8 ≤ n + 8)
      have sl := sizeLine_eq
      refine ⟨_, (pss_cons (ps_setLc (i := 2) (own := [("_law_inner_here", 6)]) (g := gName 6) (tt := tYes) (te := tCall sp [] E0 (tCons (tVar 0) (tCons (tVar 6) tNil))) rfl scMade.nd rfl rfl (sw_true rfl rfl rfl (by decide +kernel)) (pi_tup (pe_call GI h1 (by rfl) V'.gIn V'.FIn.kp V'.bIn .nil pass0 (pa_cons (pv 1) pa_nil))) (blkOk_by (own := [("_law_inner_here", 6)]) (N := nMade) (sc := defScope sMade) (by decide +kernel)) (fun _ _ _ _ _ => pg_name (i := 6) scMade.nd rfl (Or.inl rfl)) (fun _ _ _ _ _ => pts_nil)
          (fun _ _ _ _ _ => by exact pe_call GM hr (by rfl) D'.gMd D'.FMd.kp D'.bMd .nil pass0 (pa_cons (pv 0) (pa_cons (pv 6) pa_nil))))
        (pss_cons (ps_if (pt_cmpR op_eq (pe_ix ix_tup (pv 1) pe_int (fun _ _ => rfl)) pe_str (nomark _))
          (pss_one (ps_ret (pe_call GU h3 (by rfl) M.gU M.FU.kp M.bU .nil pass0 (pa_cons (pe_ix ix_tup (pv 1) pe_int (fun _ _ => rfl)) pa_nil))))
          pss_nil)
        (pss_cons (ps_if (pt_cmpR op_eq (pe_ix ix_tup (pv 1) pe_int (fun _ _ => rfl)) pe_str (nomark _))
          (pss_one (ps_ret (pe_call GW h8 (by rfl) W.gLW W.FLW.kp W.bLW .nil pass0 (pa_cons (pv 0) (pa_cons (pe_ix ix_tup (pv 1) pe_int (fun _ _ => rfl)) (pa_cons (pv 2) pa_nil))))))
          pss_nil)
        (pss_cons (ps_if (pt_cmpR op_eq (pe_ix ix_tup (pv 1) pe_int (fun _ _ => rfl)) pe_str (nomark _))
          (pss_one (ps_ret (pe_call GF h6 (by rfl) M.gF M.FF.kp M.bF .nil pass0 (pa_cons (pe_ix ix_tup (pv 1) pe_int (fun _ _ => rfl)) (pa_cons (pe_ix ix_list (pv 2) pe_int (fun _ _ => rfl)) pa_nil)))))
          pss_nil)
        (pss_cons (ps_setLc (i := 3) (own := [("_law_name_here", 7), ("_law_inner_here", 6)]) (g := gTup K 2 (gCons (gName 7) (gCons (gName 6) gNil))) (tt := tYes) rfl scMade.nd rfl rfl (sw_true rfl rfl rfl (by decide +kernel)) (pi_tup (pe_ix ix_tup (pv 1) pe_int (fun _ _ => rfl))) (blkOk_by (own := [("_law_name_here", 7), ("_law_inner_here", 6)]) (N := nMade) (sc := defScope sMade) (by decide +kernel)) (fun _ _ _ _ _ => pg_tup rfl (pgs_cons (pg_name (i := 7) scMade.nd rfl (Or.inl rfl)) (pgs_cons (pg_name (i := 6) scMade.nd rfl (Or.inl rfl)) pgs_nil))) (fun _ _ _ _ _ => pts_nil) (fun _ _ _ _ _ => (pv 7)))
        (pss_cons (ps_set (i := 4) scMade.nd rfl (Or.inl rfl) (pe_callTy (call_dictP rfl) (by rfl) B.dict (by decide +kernel) (pa_cons (pe_call GX h2 (by rfl) L.gMx L.FMx.kp L.bMx .nil pass0 (pa_cons (pv 0) (pa_cons (pe_listZip rfl (pa_cons (pv 3) (pa_cons (pe_slice sl_list (pv 2) po_none (po_some (pe_un un_neg pe_int))) pa_nil)) (by rfl) B.list (by decide +kernel) (by rfl) B.zip) pa_nil))) pa_nil)))
        (pss_cons (ps_if (pt_cmpR (op_eqD hr.units) (pv 3) (pe_lst (pa_cons pe_str pa_nil)) (nomark _))
          (pss_one (ps_ret (pe_callKw G1 h7 Z.FLt.kp (by rfl) Z.gLt pass0 (pa_cons (pe_ix ix_list (pv 2) (pe_un un_neg pe_int) (fun _ _ => rfl)) pa_nil) (pk_cons (pe_ix ix_list (pv 2) pe_int (fun _ _ => rfl)) pk_nil))))
          pss_nil)
        (C8.pss_cut (ps_if (PW.pt (pw_and (pt_cmpR (op_eqD hr.units) (pe_callB cr_sortedS (by rfl) B.sorted (by decide +kernel) (pa_cons (pv 3) pa_nil)) (pe_lst (pa_cons pe_str (pa_cons pe_str pa_nil))) (nomark _)) (pw_and1 (pt_cmpR op_eq (pe_call GD h1 (by rfl) L.gDr L.FDr.kp L.bDr .nil pass0 (pa_cons (pv 0) (pa_cons pe_int pa_nil))) pe_int (nomark _)))))
          (pss_one (ps_ret (pe_callKw G2 h7 Z.FLt.kp (by rfl) Z.gLt pass0 (pa_cons (pe_ix ix_list (pv 2) (pe_un un_neg pe_int) (fun _ _ => rfl)) pa_nil) (pk_cons (pe_dget (Nat.lt_of_le_of_lt (Nat.add_le_add_left (by decide : 1 ≤ 64) _) hr.units) (pv 4) pe_str (fun _ _ => rfl)) (pk_cons (pe_dget (Nat.lt_of_le_of_lt (Nat.add_le_add_left (by decide : 1 ≤ 64) _) hr.units) (pv 4) pe_str (fun _ _ => rfl)) pk_nil)))))
          pss_nil)
        (pss_cons (ps_set (i := 5) scMade.nd rfl (Or.inl rfl) (pe_call GL h6 (by rfl) Z.gLO Z.FLO.kp Z.bLO .nil pass0 (pa_cons (pe_ix ix_list (pv 2) (pe_un un_neg pe_int) (fun _ _ => rfl)) (pa_cons (pv 4) pa_nil))))
        (pss_cons (ps_expr (pe_dclear (pv 4)))
        (pss_one (ps_ret (pv 5))))))))))))), ?_⟩
      have om := OpN.s.mp ho
      have hcd : ∀ e ∈ inn d, cnt n e ≤ 500 := fun e he => Nat.le_trans (cnt_inn he) hc
      refine ⟨v, rfl, v, d, rfl, hv, om.1.1, fun r H1 s1 rr => ?_⟩
      obtain ⟨t, us, rfl, ht, ru, hlu⟩ := rr.tupd'
      have hs1 := hst.same s1
      refine ⟨t, rfl, ⟨_, ht⟩, fun D0 nD => lcJT (K := K) (J := Jst a) (Pd := fun i e => (((inn d).map (srtD n))[i]? = some e)) (jr_st a) (.refl hs1) (by have := ru.length; omega) ht nD ?_ ?_⟩
      · intro i y H2 Q2 Z2 hy j2 hQ
        refine ⟨rfl, ?_⟩
        obtain ⟨e, he, re⟩ := ru.get hy
        have me := List.mem_of_getElem? he
        refine iteT (B := Z2 H2) ⟨.ref a, rfl, y, rfl, hsp a y e H2 Q2 _ j2.2.1 (Rdd.ex ((jr_st a).ex j2) _ re) (om.2 e me) (by omega) (hcd e me) fun r H3 j3 r3 => hQ r H3 _ j3 r3 ?_⟩
        rw [List.getElem?_map, he]
        rfl
      · intro H2 ys ds j2 hD ra la hds
        have lu := ru.length
        have ed := ds_eq (by rw [List.length_map, la, lu]) hds
        subst ed
        have j02 : Jst a H H2 := (Jst.same hst s1).trans j2
        have hst2 := j2.2.1
        have hDa := hs1.ne nD
        have x02 := (jr_st a).ex j02
        have okd := okd_srt ho hn hc
        rcases built_cases om.1.1 with ⟨x, rfl, hx⟩ | ⟨x, l0, rfl, hx, hl0⟩ | ⟨x, b, rfl, hx⟩ | ⟨ps, b, rfl, hp⟩
        · obtain ⟨b0, xs, rfl, hs, hx2, _⟩ := hv.tupd'
          obtain ⟨x1, x2, rfl, r1, r2⟩ := hx2.pair
          cases r1
          cases r2
          have hs2 := x02.tup hs
          refine ⟨.ref b0, rfl, b0, _, 0, _, rfl, rfl, hs2, atI_nat (j := 0) rfl, rfl, _, rfl, ?_⟩
          rw [str_dec, decide_eq_true rfl]
          exact iteT ⟨.ref b0, rfl, b0, _, 1, _, rfl, rfl, hs2, atI_nat (j := 1) rfl, x, rfl, hx, fun z H3 s3 rz => q z H3 (j02.trans (Jst.same hst2 s3)) rz⟩
        · obtain ⟨b0, xs, rfl, hs, hx3, _⟩ := hv.tupd'
          obtain ⟨x1, x2, x3, rfl, r1, r2, r3⟩ := hx3.trip
          cases r1
          cases r2
          have hs2 := x02.tup hs
          rw [inn_W] at ra
          rw [srt_W] at okd q
          refine ⟨.ref b0, rfl, b0, _, 0, _, rfl, rfl, hs2, atI_nat (j := 0) rfl, rfl, _, rfl, ?_⟩
          rw [str_dec, decide_eq_false (by decide +kernel : ¬ ("word" : Str) = "name")]
          refine iteF ⟨.ref b0, rfl, b0, _, 0, _, rfl, rfl, hs2, atI_nat (j := 0) rfl, rfl, _, rfl, ?_⟩
          rw [str_dec, decide_eq_true rfl]
          exact iteT ⟨.ref a, rfl, .ref b0, rfl, b0, _, 1, _, rfl, rfl, hs2, atI_nat (j := 1) rfl, .ref D0, rfl, a, x, D0, ys, _, rfl, hst2, hDa, hD, ra, by rw [List.length_map]; exact hl0, hx, okd, fun z H3 j3 rz => q z H3 (j02.trans j3) rz⟩
        · obtain ⟨b0, xs, rfl, hs, hx3, _⟩ := hv.tupd'
          obtain ⟨x1, x2, x3, rfl, r1, r2, r3⟩ := hx3.trip
          cases r1
          cases r2
          have hs2 := x02.tup hs
          rw [inn_F] at ra
          rw [srt_F] at okd q
          obtain ⟨u0, hu0, ru0⟩ := ra.at (i := 0) rfl
          refine ⟨.ref b0, rfl, b0, _, 0, _, rfl, rfl, hs2, atI_nat (j := 0) rfl, rfl, _, rfl, ?_⟩
          rw [str_dec, decide_eq_false (by decide +kernel : ¬ ("fun" : Str) = "name")]
          refine iteF ⟨.ref b0, rfl, b0, _, 0, _, rfl, rfl, hs2, atI_nat (j := 0) rfl, rfl, _, rfl, ?_⟩
          rw [str_dec, decide_eq_false ne_wf]
          refine iteF ⟨.ref b0, rfl, b0, _, 0, _, rfl, rfl, hs2, atI_nat (j := 0) rfl, rfl, _, rfl, ?_⟩
          rw [str_dec, decide_eq_true rfl]
          exact iteT ⟨.ref b0, rfl, b0, _, 1, _, rfl, rfl, hs2, atI_nat (j := 1) rfl, .ref D0, rfl, D0, ys, 0, u0, rfl, rfl, SqL.of hD, atI_nat (j := 0) hu0, x, u0, srtD n b, rfl, ru0, hx, okd, fun z H3 s3 rz => q z H3 (j02.trans (Jst.same hst2 s3)) rz⟩
        · obtain ⟨b0, xs, rfl, hs, hx3, _⟩ := hv.tupd'
          obtain ⟨x1, x2, x3, rfl, r1, r2, r3⟩ := hx3.trip
          cases r1
          obtain ⟨c, cs, rfl, hcc, hcy, hcz⟩ := r2.tupd'
          have hs2 := x02.tup hs
          have hc2 := x02.tup hcc
          have hcy2 := RddAll.ex x02 _ hcy
          obtain ⟨_, _, _, at'⟩ := hcy2.snds
          have lw := om.1.2
          rw [inn_L, List.length_append, List.length_map] at lw
          have lw3 : ps.length ≤ 3 := by
            have : [b].length = 1 := rfl
            omega
          rw [inn_L, List.map_append, List.map_singleton] at ra
          obtain ⟨us0, u, rfl, ru0, rul⟩ := ra.unsnoc
          have lu0 := ru0.length
          rw [List.length_map, List.length_map] at lu0
          have lcs := hcy.length
          have lmk : (mkPs ps).length = ps.length := List.length_map ..
          rw [srt_L] at okd q
          have hpm := defOk_map (srtD n) hp
          have epm := zip_pm (srtD n) ps
          have epf : (ps.map fun p => (p.1, srtD n p.2)).map (·.1) = ps.map (·.1) := by rw [List.map_map]; rfl
          have eps : (ps.map fun p => (p.1, srtD n p.2)).map (·.2) = (ps.map (·.2)).map (srtD n) := by rw [List.map_map, List.map_map]; rfl
          generalize hgm : (ps.map fun p => (p.1, srtD n p.2)) = pm at okd q hpm epm epf eps
          have lpm : pm.length = ps.length := by rw [← hgm, List.length_map]
          have oknm : ∀ x ∈ ps.map (·.1), nmOk x = true := fun x hx => by
            obtain ⟨p, hp2, rfl⟩ := List.mem_map.mp hx
            exact hp.2.2.1 p hp2
          refine ⟨.ref b0, rfl, b0, _, 0, _, rfl, rfl, hs2, atI_nat (j := 0) rfl, rfl, _, rfl, ?_⟩
          rw [str_dec, decide_eq_false (by decide +kernel : ¬ ("let" : Str) = "name")]
          refine iteF ⟨.ref b0, rfl, b0, _, 0, _, rfl, rfl, hs2, atI_nat (j := 0) rfl, rfl, _, rfl, ?_⟩
          rw [str_dec, decide_eq_false ne_wl]
          refine iteF ⟨.ref b0, rfl, b0, _, 0, _, rfl, rfl, hs2, atI_nat (j := 0) rfl, rfl, _, rfl, ?_⟩
          rw [str_dec, decide_eq_false ne_fl]
          have lns : (ps.map (·.1)).length = ps.length := List.length_map ..
          refine iteF ⟨.ref b0, rfl, b0, _, 1, .ref c, rfl, rfl, hs2, atI_nat (j := 1) rfl, c, rfl, ⟨_, hc2⟩, fun D1 nD1 => lcT (((ps.map (·.1)).map V.str).map some) (by rw [List.length_map, List.length_map, lns]; omega) (by omega) hc2 nD1 ?_ ?_⟩
          · intro i x H3 Q3 Z3 hx sm hQ _
            obtain ⟨e, y, w1, rfl, he, _, hy1⟩ := at' i x hx
            refine ⟨e, _, rfl, (Ex.same sm).tup he, rfl, _, _, rfl, _, _, rfl, rfl, rfl, ?_⟩
            refine iteT (B := Z3 H3) ⟨_, rfl, hQ _ _ ?_ (Same.refl _)⟩
            rw [List.getElem?_map, List.getElem?_map, hy1]
            rfl
          · intro H3 s3 hD1
            rw [fm_snd] at hD1
            have hD3 := s3 _ _ hD
            have hst3 := hst2.same s3
            have j03 := j02.trans (Jst.same hst2 s3)
            have ru3 := RddAll.ex (.same s3) _ ru0
            have rul3 := Rdd.ex (.same s3) _ rul
            refine ⟨.ref a, rfl, .ref D1, rfl, .ref D0, rfl, 1, rfl, _, rfl, D0, us0 ++ [u], rfl, SqL.of hD3, fun p np => ?_⟩
            rw [cut_last]
            have s4 := Same.new (o := .lst us0) np
            have h4 : (upd H3 p (.lst us0)) p = some (.lst us0) := upd_same
            generalize upd H3 p (.lst us0) = H4 at s4 h4 ⊢
            have hst4 := hst3.same s4
            refine ⟨D1, p, (ps.map (·.1)).map V.str, us0, rfl, SqL.of (s4 _ _ hD1), SqL.of h4, by rw [List.length_map, lns]; omega, fun H5 p5 ts z => ?_⟩
            obtain ⟨z1, z2, z3, z4, z5, z6, z7⟩ := z
            rw [List.length_map, lns] at z6
            have s45 : Same H4 H5 := z1
            have hst5 := hst4.same s45
            have s35 := s4.trans s45
            have rp : RddAll K H5 (ts.map V.ref) (mkPs pm) := by
              rw [← epm]
              exact zip_rdd (by rw [lns]; exact z6) (by rw [lns]; omega) (RddAll.ex (.same s35) _ ru3) z7
            refine ⟨a, p5, ts.map V.ref, rfl, hst5, hst4.ne z2, SqL.of z5, by rw [List.length_map]; omega, fun ms p6 H6 pm6 n6 j6 h6 => ?_⟩
            obtain ⟨qs, qp, rq⟩ := rdd_perm (fun p : Str × D => D.tup [.str p.1, p.2]) pm6 pm (RddAll.ex ((jr_st a).ex j6) _ rp)
            have rq' : RddAll K H6 ms (mkPs qs) := rq
            obtain ⟨as, kvs, rfl, pk, ek, rk⟩ := pairs_kvs rq'
            have nq : (qs.map (·.1)).Nodup := (qp.map (·.1)).nodup_iff.mpr hpm.2.2.2
            have hst6 := j6.2.1
            have j06 := (j03.trans (Jst.same hst3 s35)).trans j6
            have keep6 : ∀ b o, b ≠ a → H3 b = some o → H6 b = some o := fun b o hb e => j6.2.2 b o hb (s35 _ _ e)
            refine ⟨p6, as, kvs, rfl, SqL.of h6, pk, fun p7 n7 => ?_⟩
            have dd := defD_new n7 nq ek rk
            have s7 := Same.new (o := .dK (mergeK [] kvs)) n7
            have h7 : (upd H6 p7 (.dK (mergeK [] kvs))) p7 = some (.dK (mergeK [] kvs)) := upd_same
            generalize upd H6 p7 (.dK (mergeK [] kvs)) = H7 at s7 h7 dd ⊢
            have hst7 := hst6.same s7
            have j07 := j06.trans (Jst.same hst6 s7)
            have n7a := hst6.ne n7
            have hD1a : D1 ≠ a := hst2.ne nD1
            have hD7 := s7 _ _ (keep6 _ _ hDa hD3)
            have hN7 := s7 _ _ (keep6 _ _ hD1a hD1)
            have x37 : Ex H3 H7 := (jr_st a).ex (((Jst.same hst3 s35).trans j6).trans (Jst.same hst6 s7))
            have ru7 := RddAll.ex x37 _ ru3
            have rul7 := Rdd.ex x37 _ rul3
            refine ⟨.ref D1, rfl, (by show 1 ≤ sizeLine; decide), fun p8 n8 => ?_⟩
            have s8 := Same.new (o := .lst [V.str "x"]) n8
            have h8 : (upd H7 p8 (.lst [V.str "x"])) p8 = some (.lst ((["x"] : List Str).map V.str)) := upd_same
            generalize upd H7 p8 (.lst [V.str "x"]) = H8 at s8 h8 ⊢
            have hst8 := hst7.same s8
            have j08 := j07.trans (Jst.same hst7 s8)
            refine eq_strs oknm (by decide +kernel) (SqL.of (s8 _ _ hN7)) (SqL.of h8) ⟨_, rfl, ite2 (fun e => ?_) (fun _ => ?_)⟩
            · have e1 : ps.map (·.1) = (["x"] : List Str) := of_decide_eq_true e
              have l1 : us0.length = 1 := by
                rw [lu0, ← lns, e1]
                rfl
              obtain ⟨u0, rfl⟩ := List.length_eq_one_iff.mp l1
              refine ⟨.ref D0, rfl, 1, rfl, D0, [u0] ++ [u], -1, u, rfl, rfl, SqL.of (s8 _ _ hD7), atI_last _ _, .ref D0, rfl, D0, [u0] ++ [u], 0, u0, rfl, rfl, SqL.of (s8 _ _ hD7), atI_nat (j := 0) rfl, u, srtD n b, (ps.map (·.2)).map (srtD n), rfl, Rdd.ex (.same s8) _ rul7, RddAll.ex (.same s8) _ ru7, by rw [← e1, List.length_map, List.length_map, List.length_map], ?_, ?_, fun z H9 s9 rz => q z H9 (j08.trans (Jst.same hst8 s9)) ?_⟩
              · rw [← e1, epm]
                exact hpm
              · rw [← e1, epm]
                exact okd
              · rw [← e1, epm] at rz
                exact rz
            · refine ⟨fun σ' H' => σ' = [some (.ref a), some (.ref b0), some (.ref D0), some (.ref D1), some (.ref p7), none, none, none] ∧ Jst a H8 H', ?_, ?_⟩
              · have e64 : (ps.map (·.1)).length < 64 := by rw [lns]; omega
                refine ⟨.ref D1, rfl, D1, ps.map (·.1), rfl, SqL.of (s8 _ _ hN7), e64, fun zs p9 pz sz n9 => ?_⟩
                have s9 := Same.new (o := .lst (zs.map V.str)) n9
                have h9 : (upd H8 p9 (.lst (zs.map V.str))) p9 = some (.lst (zs.map V.str)) := upd_same
                generalize upd H8 p9 (.lst (zs.map V.str)) = H9 at s9 h9 ⊢
                refine ⟨(by show 2 ≤ sizeLine; decide), fun p10 n10 => ?_⟩
                have s10 := Same.new (o := .lst [V.str "y", V.str "z"]) n10
                have h10 : (upd H9 p10 (.lst [V.str "y", V.str "z"])) p10 = some (.lst ((["y", "z"] : List Str).map V.str)) := upd_same
                generalize upd H9 p10 (.lst [V.str "y", V.str "z"]) = H10 at s10 h10 ⊢
                have s8t := s9.trans s10
                have hst10 := hst8.same s8t
                have j810 := Jst.same hst8 s8t
                refine eq_strs (fun x hx => oknm x (pz.mem_iff.mp hx)) (by decide +kernel) (SqL.of (s10 _ _ h9)) (SqL.of h10) ⟨_, rfl, ite2 (fun e => ?_) (fun _ => ⟨rfl, j810⟩)⟩
                have e1 : zs = (["y", "z"] : List Str) := of_decide_eq_true e
                subst e1
                refine ⟨.ref a, rfl, a, 2, rfl, hst10, by decide, small_big (by decide), fun r H11 _ _ o11 hs11 => ⟨rfl, _, rfl, ite2 (fun _ => ?_) (fun _ => ⟨rfl, j810.trans ⟨hst10, hs11, o11⟩⟩)⟩⟩
                have j11 : Jst a H7 H11 := ((Jst.same hst7 s8).trans j810).trans ⟨hst10, hs11, o11⟩
                have x11 := (jr_st a).ex j11
                have hD11 := j11.2.2 _ _ hDa hD7
                have h711 := j11.2.2 _ _ n7a h7
                obtain ⟨kvs', hk', ek', rk'⟩ := dd
                rw [h7] at hk'
                cases hk'
                have lq : qs.length = 2 := by
                  have := pz.length_eq
                  rw [qp.length_eq, lpm, ← lns, ← this]
                  rfl
                have mem : ∀ x ∈ (["y", "z"] : List Str), ∃ p ∈ qs, p.1 = x := fun x hx => by
                  have m1 := pz.mem_iff.mp hx
                  rw [← epf] at m1
                  obtain ⟨p, hp1, e⟩ := List.mem_map.mp m1
                  exact ⟨p, qp.mem_iff.mpr hp1, e⟩
                obtain ⟨py, hpy, ey⟩ := mem "y" (by simp)
                obtain ⟨pz', hpz, ez⟩ := mem "z" (by simp)
                obtain ⟨vz, hvz, rvz⟩ := valV_at ek' rk' nq pz' hpz
                obtain ⟨vy, hvy, rvy⟩ := valV_at ek' rk' nq py hpy
                rw [ez] at hvz
                rw [ey] at hvy
                have nyz : ¬ ("z" : Str) = "y" := by decide +kernel
                have perm2 : [pz', py].Perm qs := two_perm lq hpz hpy fun z => nyz (by rw [← ez, ← ey, z])
                have ezip : (["z", "y"] : List Str).zip [pz'.2, py.2] = [pz', py] := by
                  show [(("z" : Str), pz'.2), (("y" : Str), py.2)] = _
                  rw [← ez, ← ey]
                have perm3 := perm2.trans qp
                have esrt : srtP [pz', py] = srtP pm := srtP_uniq ((perm3.map (·.1)).nodup_iff.mpr hpm.2.2.2) perm3
                refine ⟨.ref D0, rfl, 1, rfl, D0, us0 ++ [u], -1, u, rfl, rfl, SqL.of hD11, atI_last _ _, .ref p7, rfl, p7, vz, rfl, hvz ▸ DGet.k (k := Sum.inr ("z" : Str)) h711, .ref p7, rfl, p7, vy, rfl, hvy ▸ DGet.k (k := Sum.inr ("y" : Str)) h711, u, srtD n b, [pz'.2, py.2], rfl, Rdd.ex x11 _ rul7, .cons (Rdd.ex x11 _ rvz) (.cons (Rdd.ex x11 _ rvy) .nil), rfl, ?_, ?_, fun zz H12 s12 rzz => q zz H12 ((j07.trans j11).trans (Jst.same hs11 s12)) ?_⟩
                · rw [ezip]
                  exact defOk_perm perm3 hpm
                · rw [ezip, esrt]
                  exact okd
                · rw [ezip, esrt] at rzz
                  exact rzz
              · rintro σ' H9 ⟨rfl, j9⟩
                have j79 : Jst a H7 H9 := (Jst.same hst7 s8).trans j9
                have x9 := (jr_st a).ex j79
                have hD9 := j79.2.2 _ _ hDa hD7
                have h79 := j79.2.2 _ _ n7a h7
                have hst9 := j9.2.1
                obtain ⟨kvs', hk', ek', rk'⟩ := dd
                rw [h7] at hk'
                cases hk'
                have esrt : srtP qs = srtP pm := srtP_uniq nq qp
                refine ⟨.ref D0, rfl, 1, rfl, D0, us0 ++ [u], -1, u, rfl, rfl, SqL.of hD9, atI_last _ _, .ref p7, rfl, u, srtD n b, p7, qs, rfl, Rdd.ex x9 _ rul7, ⟨_, h79, ek', RddAll.ex x9 _ rk'⟩, by rw [qp.length_eq, lpm]; omega, defOk_perm qp hpm, by rw [esrt]; exact okd, fun r H10 s10 rr => ?_⟩
                rw [esrt] at rr
                have h710 := s10 _ _ h79
                have hst10 := hst9.same s10
                have j710 := j79.trans (Jst.same hst9 s10)
                refine ⟨.ref p7, rfl, .inr (.inr (.inl ⟨rfl, .inl ⟨_, h710⟩⟩)), p7, _, rfl, rfl, h710, r, rfl, q r _ ?_ (Rdd.keep (sqT_dict h710) _ ?_ rr)⟩
                · refine (jr_st a).put (j07.trans j710) ?_
                  cases eH : H p7 with
                  | none => rfl
                  | some o =>
                    have := j06.2.2 p7 o n7a eH
                    rw [n7] at this
                    cases this
                · obtain ⟨_, _, op, _⟩ := okd
                  exact opn_pure op
  intro n
  induction n with
  | zero => exact key 0 (fun _ _ _ _ => False) ok_false (fun _ _ _ _ _ _ _ _ h => h.elim)
  | succ n ih => exact key (n + 1) (spMade K (n + 1)) ih (fun a v d H Q E a1 a2 a3 a4 a5 a6 => ⟨a, v, d, rfl, a1, a2, a3, a4, a5, a6⟩)
end
end Sl

set_option Elab.async false
set_option linter.all false
set_option maxRecDepth 100000
set_option maxHeartbeats 400000
namespace Sl
open PySem PySem.Spec PyProof.Rows L2
abbrev sSome : Stmt := topT 44
theorem scSome : FnScope ["_law_stream_here", "_law_seen", "_law_part_here"] ["_law_stream_here", "_law_seen"] (defScope sSome) := ⟨rfl, rfl, rfl, by decide +kernel, rfl, by decide +kernel, by decide +kernel⟩
section
variable {P : Program} {w : World} {K : PySem.W.Frag} {mg : Str → Option Value} {base : Heap} {fIn fPa fPs fWr : Addr} {fdIn fdPa fdPs fdWr : FuncData} {fSt fDr fPk fMx : Addr} {fdSt fdDr fdPk fdMx : FuncData} {fDn fBk fHd fSm : Addr} {fdDn fdBk fdHd fdSm : FuncData}
structure Lsm (K : PySem.W.Frag) (mg : Str → Option Value) (fSm : Addr) (fdSm : FuncData) : Prop where
  FSm : Fun K "_law_some" "_law_some" sSome fSm fdSm
  bSm : Binds K fdSm ["_law_stream_here", "_law_seen"] []
  gSm : mg "_law_some" = some (.ref fSm)
def spSome (K : PySem.W.Frag) : Sp := fun vs H Q _ => ∃ (a l : Addr) (xs : List Str), vs = [V.ref a, .ref l] ∧ Stm a H ∧ l ≠ a ∧ Sn K H l xs ∧ xs.length ≤ 300 ∧ ∀ v d H', Jst a H H' → Rdd K H' v d → OpN 9 d → cnt 9 d ≤ 200 → Q v H'
theorem drawn_any (Y : Ld K mg fDn fBk fHd fdDn fdBk fdHd) (L : Lw K mg fSt fDr fPk fMx fdSt fdDr fdPk fdMx) (B : Bt mg) : FnOk P w K mg base CX0 17 fDn fdDn ["_law_stream_here", "_law_deep", "_law_seen"] (fun vs H Q E => ∃ n, n ≤ 4 ∧ spDrawn K n vs H Q E) := by
  have G := all_drawn (P := P) (w := w) (base := base) Y L B
  refine ⟨fun vs H Q E h => ?_, fun A outer s H args us vs Q E hr e0 hb r h => ?_⟩
  · obtain ⟨n, _, h⟩ := h
    exact (G n).len vs H Q E h
  · obtain ⟨n, hn, h⟩ := h
    exact (G n).run A outer s H args us vs Q E (hr.mono (by omega)) e0 hb r h
theorem ok_some (S : Lsm K mg fSm fdSm) (X : Lps K mg fPs fWr fdPs fdWr) (T : Lp K mg fIn fPa fdIn fdPa) (Y : Ld K mg fDn fBk fHd fdDn fdBk fdHd) (L : Lw K mg fSt fDr fPk fMx fdSt fdDr fdPk fdMx) (B : Bt mg) : FnOk P w K mg base CX0 18 fSm fdSm ["_law_stream_here", "_law_seen"] (spSome K) := by
  have GD : FnOk P w K mg base CX0 1 fDr fdDr ["_law_stream_here", "_law_high"] spDraw := g_draw L B
  have GH : FnOk P w K mg base CX0 3 fPs fdPs ["_law_root"] (spPaths K) := ok_paths X.FPs T B
  have GN : FnOk P w K mg base CX0 17 fDn fdDn ["_law_stream_here", "_law_deep", "_law_seen"] (fun vs H Q E => ∃ n, n ≤ 4 ∧ spDrawn K n vs H Q E) := drawn_any Y L B
  refine S.FSm.ok scSome (fun vs H Q E h => ?_) (fun cdv A outer s H vs Q E hr h => ?_)
  · obtain ⟨a, l, xs, rfl, _⟩ := h
    rfl
  · obtain ⟨a, l, xs, rfl, hs, hne, hl, hz, q⟩ := h
    have h1 := hr.mono (by decide : 1 ≤ 17)
    have h3 := hr.mono (by decide : 3 ≤ 17)
    refine ⟨_, (pss_cons (ps_set (i := 2) scSome.nd rfl (Or.inl rfl) (pe_call GN hr (by rfl) Y.gDn Y.FDn.kp Y.bDn .nil pass0 (pa_cons (pv 0) (pa_cons (pe_op op_add pe_int (pe_call GD h1 (by rfl) L.gDr L.FDr.kp L.bDr .nil pass0 (pa_cons (pv 0) (pa_cons pe_int pa_nil)))) (pa_cons (pv 1) pa_nil)))))
      (pss_one (ps_ret (pe_ifExp (pt_cmpR op_le (pe_callB call_len_seq (by rfl) B.len PySem.boot_len (pa_cons (pe_call GH h3 (by rfl) X.gPs X.FPs.kp X.bPs .nil pass0 (pa_cons (pv 2) pa_nil)) pa_nil)) pe_int (nomark _)) (pv 2) (pe_tup (pa_cons pe_str (pa_cons pe_str (pa_cons (pe_tup pa_nil) pa_nil)))))))), ?_⟩
    refine ⟨.ref a, rfl, .ref a, rfl, a, 4, rfl, hs, by decide, small_big (by decide), fun r H1 r0 r1 o1 hs1 => ?_⟩
    have j1 : Jst a H H1 := ⟨hs, hs1, o1⟩
    obtain ⟨k, rfl⟩ := Int.eq_ofNat_of_zero_le r0
    have hl1 : Sn K H1 l xs := ⟨o1 l _ hne hl.1, hl.2⟩
    have ek : (1 : Int) + (k : Nat) = ((k + 1 : Nat) : Int) := by omega
    have k4 : k + 1 ≤ 4 := by omega
    refine ⟨1, (k : Nat), rfl, rfl, .ref l, rfl, k + 1, k4, a, l, xs, (by show [V.ref a, V.int (1 + ((k : Nat) : Int)), V.ref l] = _; rw [ek]), hs1, hne, hl1, by omega, fun v d H2 j2 rv od => ?_⟩
    have o9 : OpN 9 d := od.le (by omega)
    have j02 := j1.trans j2
    refine ⟨v, rfl, v, d, 9, rfl, rv, o9, by decide, fun p zs ps H3 s3 n3 h3' rz pok lps => ?_⟩
    have lz := rz.length
    rw [List.length_map] at lz
    have j03 := j02.trans (Jst.same j2.2.1 s3)
    refine ⟨p, zs, rfl, .inl (SqL.of h3'), _, _, rfl, rfl, _, rfl, ite2 (fun e => ?_) (fun _ => ?_)⟩
    · have e1 := of_decide_eq_true e
      exact ⟨v, rfl, q v d H3 j03 (Rdd.ex (.same s3) _ rv) o9 (by omega)⟩
    · refine ⟨(by show 0 ≤ sizeLine; decide), fun p4 n4 => ?_⟩
      have s4 := Same.new (o := .tup []) n4
      have h4 : (upd H3 p4 (.tup [])) p4 = some (.tup []) := upd_same
      generalize upd H3 p4 (.tup []) = H4 at s4 h4 ⊢
      refine ⟨(by show 3 ≤ sizeLine; decide), fun p5 n5 => ?_⟩
      have s5 := Same.new (o := .tup [V.str "word", V.str "k", .ref p4]) n5
      have hst3 := j03.2.1
      refine q _ (mkW "k" []) _ (j03.trans (Jst.same hst3 (s4.trans s5))) (.tup (SqT.of upd_same) (.cons (.str _) (.cons (.str _) (.cons (.tup (SqT.of (s5 _ _ h4)) .nil (by decide)) .nil))) (Nat.le_of_ble_eq_true rfl)) (op_W (n := 8) (by decide +kernel) (by decide) fun e he => by cases he) ?_
      rw [cnt_s, inn_W]
      decide
end
end Sl

set_option Elab.async false
set_option linter.all false
set_option maxRecDepth 100000
set_option maxHeartbeats 400000
/-! ### open terms shown and compared -/
namespace Sl
open PySem PySem.Spec PyProof.Rows L2
mutual
def D.nice : D → Bool
  | .str x => PyData.strOk x && decide (x.length ≤ 8)
  | .tup ds => D.nices ds
  | _ => false
def D.nices : List D → Bool
  | [] => true
  | d :: ds => d.nice && D.nices ds
end
theorem nices_of : ∀ {ds : List D}, (∀ d ∈ ds, d.nice = true) → D.nices ds = true
  | [], _ => by simp [D.nices]
  | d :: ds, h => by
    simp only [D.nices, Bool.and_eq_true]
    exact ⟨h d List.mem_cons_self, nices_of fun x hx => h x (List.mem_cons_of_mem _ hx)⟩
section
variable {K : PySem.W.Frag} {H : Hp}
mutual
theorem Rdd.dpN : ∀ (d : D) {v : V}, d.nice = true → Rdd K H v d → Dp K H v d.py
  | .non, _, g, _ => by simp [D.nice] at g
  | .bl b, _, g, _ => by simp [D.nice] at g
  | .int i, _, g, _ => by simp [D.nice] at g
  | .str x, _, _, h => by
    cases h
    simp only [D.py]
    exact .str x
  | .tup ds, _, g, h => by
    simp only [D.nice] at g
    cases h with
    | tup hs ha _ =>
      simp only [D.py]
      exact .tup hs (RddAll.dpN ds g ha)
  | .lst, _, g, _ => by simp [D.nice] at g
  | .dct, _, g, _ => by simp [D.nice] at g
theorem RddAll.dpN : ∀ (ds : List D) {vs : List V}, D.nices ds = true → RddAll K H vs ds → DpAll K H vs (D.pys ds)
  | [], _, _, h => by cases h; simp only [D.pys]; exact .nil
  | d :: ds, _, g, h => by
    simp only [D.nices, Bool.and_eq_true] at g
    cases h with
    | cons h1 h2 =>
      simp only [D.pys]
      exact .cons (Rdd.dpN d g.1 h1) (RddAll.dpN ds g.2 h2)
end
end
mutual
theorem nice_ok : ∀ d : D, d.nice = true → d.py.showable = true ∧ d.py.canLay0 = true ∧ d.py.intsShort 13 = true
  | .non, g => by simp [D.nice] at g
  | .bl b, g => by simp [D.nice] at g
  | .int i, g => by simp [D.nice] at g
  | .str x, g => by
    simp only [D.nice, Bool.and_eq_true] at g
    simp only [D.py, PyData.showable, PyData.canLay0, PyData.intsShort, and_true, true_and]
    exact g.1
  | .tup ds, g => by
    simp only [D.nice] at g
    simp only [D.py, PyData.showable, PyData.canLay0, PyData.intsShort]
    exact nices_ok ds g
  | .lst, g => by simp [D.nice] at g
  | .dct, g => by simp [D.nice] at g
theorem nices_ok : ∀ ds : List D, D.nices ds = true → PyData.showableAll (D.pys ds) = true ∧ PyData.canLayAll0 (D.pys ds) = true ∧ PyData.intsShortAll 13 (D.pys ds) = true
  | [], _ => by simp [D.pys, PyData.showableAll, PyData.canLayAll0, PyData.intsShortAll]
  | d :: ds, g => by
    simp only [D.nices, Bool.and_eq_true] at g
    have h1 := nice_ok d g.1
    have h2 := nices_ok ds g.2
    simp only [D.pys, PyData.showableAll, PyData.canLayAll0, PyData.intsShortAll, Bool.and_eq_true]
    exact ⟨⟨h1.1, h2.1⟩, ⟨h1.2.1, h2.2.1⟩, h1.2.2, h2.2.2⟩
end
theorem str_nice {x : Str} (h : nmOk x = true) : (D.str x).nice = true := by
  simp only [D.nice, Bool.and_eq_true, decide_eq_true_eq]
  exact ⟨nm_strOk h, nm_small h⟩
theorem nice_word : (D.str "word").nice = true := by decide +kernel
theorem nice_name : (D.str "name").nice = true := by decide +kernel
theorem nice_fun : (D.str "fun").nice = true := by decide +kernel
theorem nice_let : (D.str "let").nice = true := by decide +kernel
theorem wt_str {x : Str} (h : nmOk x = true) : (D.str x).py.weight ≤ 8 := by
  simp only [D.py, PyData.weight]
  exact nm_small h
theorem pys_map : ∀ l : List D, D.pys l = l.map D.py
  | [] => by simp [D.pys]
  | d :: l => by simp [D.pys, pys_map l]
theorem wt_all (c k : Nat) {n : Nat} : ∀ l : List D, (∀ e ∈ l, e.py.weight + 12 ≤ 32 * cnt n e) → PyData.weightAll (D.pys l) + 11 * l.length ≤ 32 * (l.map (cnt n)).sum
  | [], _ => by simp [D.pys, PyData.weightAll]
  | e :: l, h => by
    have h1 := h e List.mem_cons_self
    have h2 := wt_all c k (n := n) l fun x hx => h x (List.mem_cons_of_mem _ hx)
    simp only [D.pys, PyData.weightAll, List.map_cons, List.sum_cons, List.length_cons]
    omega
theorem wt_ps {n : Nat} : ∀ ps : List (Str × D), (∀ p ∈ ps, nmOk p.1 = true) → (∀ p ∈ ps, p.2.py.weight + 12 ≤ 32 * cnt n p.2) → PyData.weightAll (D.pys (mkPs ps)) ≤ 32 * ((ps.map (·.2)).map (cnt n)).sum
  | [], _, _ => by simp [mkPs, D.pys, PyData.weightAll]
  | p :: ps, h0, h => by
    have h1 := h p List.mem_cons_self
    have h3 := wt_str (h0 p List.mem_cons_self)
    have h2 := wt_ps (n := n) ps (fun x hx => h0 x (List.mem_cons_of_mem _ hx)) fun x hx => h x (List.mem_cons_of_mem _ hx)
    have e : mkPs (p :: ps) = .tup [.str p.1, p.2] :: mkPs ps := rfl
    rw [e]
    simp only [D.pys, D.py, PyData.weightAll, PyData.weight, List.map_cons, List.sum_cons]
    simp only [D.py, PyData.weight] at h3
    omega
theorem dep_all {m : Nat} : ∀ l : List D, (∀ e ∈ l, e.dep ≤ m) → D.deps l ≤ m
  | [], _ => by simp [D.deps]
  | e :: l, h => by
    have h1 := h e List.mem_cons_self
    have h2 := dep_all l fun x hx => h x (List.mem_cons_of_mem _ hx)
    simp only [D.deps]
    omega
theorem opn_nice : ∀ {n : Nat} {d : D}, OpN n d → d.nice = true ∧ d.py.weight + 12 ≤ 32 * cnt n d ∧ d.dep ≤ 3 * n
  | 0, _, h => h.elim
  | n + 1, d, h => by
    have om := OpN.s.mp h
    have w1 : (D.str "word").py.weight = 4 := by decide +kernel
    have w2 : (D.str "name").py.weight = 4 := by decide +kernel
    have w3 : (D.str "fun").py.weight = 3 := by decide +kernel
    have w4 : (D.str "let").py.weight = 3 := by decide +kernel
    rcases built_cases om.1.1 with ⟨x, rfl, hx⟩ | ⟨x, l0, rfl, hx, hl0⟩ | ⟨x, b, rfl, hx⟩ | ⟨ps, b, rfl, hp⟩
    · have := wt_str hx
      refine ⟨?_, ?_, ?_⟩
      · simp only [mkU, D.nice, D.nices, Bool.and_true, Bool.and_eq_true]
        have := str_nice hx
        have h2 := nice_name
        simp only [D.nice, Bool.and_eq_true] at this h2
        exact ⟨h2, this⟩
      · rw [cnt_U]
        show PyData.weight (D.py (.tup [.str "name", .str x])) + 12 ≤ _
        simp only [D.py, D.pys, PyData.weight, PyData.weightAll] at *
        omega
      · simp only [mkU, D.dep, D.deps]
        omega
    · have ih := om.2
      rw [inn_W] at ih
      have i1 := nices_of fun d hd => (opn_nice (ih d hd)).1
      have i2 := wt_all 0 0 (n := n) l0 fun e he => (opn_nice (ih e he)).2.1
      have i3 := dep_all (m := 3 * n) l0 fun e he => (opn_nice (ih e he)).2.2
      have := wt_str hx
      refine ⟨?_, ?_, ?_⟩
      · have h1 := str_nice hx
        have h2 := nice_word
        simp only [mkW, D.nice, D.nices, Bool.and_true, Bool.and_eq_true] at h1 h2 ⊢
        exact ⟨h2, h1, i1⟩
      · rw [cnt_s, inn_W]
        simp only [mkW, D.py, D.pys, PyData.weight, PyData.weightAll] at *
        omega
      · simp only [mkW, D.dep, D.deps]
        omega
    · have ih := om.2
      rw [inn_F] at ih
      have i := opn_nice (ih b (List.mem_singleton.mpr rfl))
      have := wt_str hx
      refine ⟨?_, ?_, ?_⟩
      · have h1 := str_nice hx
        have h2 := nice_fun
        simp only [mkF, D.nice, D.nices, Bool.and_true, Bool.and_eq_true] at h1 h2 ⊢
        exact ⟨h2, h1, i.1⟩
      · rw [cnt_s, inn_F]
        simp only [mkF, D.py, D.pys, PyData.weight, PyData.weightAll, List.map_cons, List.map_nil, List.sum_cons, List.sum_nil] at *
        omega
      · simp only [mkF, D.dep, D.deps]
        omega
    · have ih := om.2
      rw [inn_L] at ih
      have i := opn_nice (ih b (List.mem_append_right _ (List.mem_singleton.mpr rfl)))
      have ip : ∀ p ∈ ps, p.2.nice = true ∧ p.2.py.weight + 12 ≤ 32 * cnt n p.2 ∧ p.2.dep ≤ 3 * n := fun p hp => opn_nice (ih p.2 (List.mem_append_left _ (List.mem_map.mpr ⟨p, hp, rfl⟩)))
      have i2 := wt_ps (n := n) ps hp.2.2.1 fun p hp => (ip p hp).2.1
      have i3 : D.deps (mkPs ps) ≤ 3 * n + 1 := dep_all _ fun e he => by
        obtain ⟨p, hp, rfl⟩ := List.mem_map.mp he
        have := (ip p hp).2.2
        simp only [D.dep, D.deps]
        omega
      refine ⟨?_, ?_, ?_⟩
      · have h2 := nice_let
        have h3 : D.nices (mkPs ps) = true := nices_of fun d hd => by
          obtain ⟨p, hp1, rfl⟩ := List.mem_map.mp hd
          have h4 := str_nice (hp.2.2.1 p hp1)
          have h5 := (ip p hp1).1
          simp only [D.nice, D.nices, Bool.and_true, Bool.and_eq_true] at h4 ⊢
          exact ⟨h4, h5⟩
        simp only [mkL, D.nice, D.nices, Bool.and_true, Bool.and_eq_true] at h2 ⊢
        exact ⟨h2, h3, i.1⟩
      · rw [cnt_s, inn_L, List.map_append, List.sum_append_nat]
        simp only [mkL, D.py, D.pys, PyData.weight, PyData.weightAll, List.map_cons, List.map_nil, List.sum_cons, List.sum_nil] at *
        omega
      · simp only [mkL, D.dep, D.deps]
        omega
theorem rRepr_term {K : PySem.W.Frag} {H : Hp} {v : V} {d : D} {n : Nat} {Q : VK} (r : Rdd K H v d) (o : OpN n d) (hn : n ≤ 12) (hc : cnt n d ≤ 500) (q : Q (.str d.py.shown) H) : rRepr K [v] H Q := by
  obtain ⟨g, w, dp⟩ := opn_nice o
  have h1 := dep_py d
  have ok := nice_ok d g
  refine ⟨v, d.py, rfl, Rdd.dpN d g r, ok.1, by omega, PyData.shown_fits (B := 13) (by decide) (by decide) (PyData.leavesShort_of_canLay0 13 d.py ok.2.1 ok.2.2) ?_, q⟩
  have : (2 : Nat) ^ 20 = 1048576 := by decide
  omega
theorem rNe_term {K : PySem.W.Frag} {H : Hp} {v u : V} {d : D} {n : Nat} {Q : VK} (r1 : Rdd K H v d) (r2 : Rdd K H u d) (o : OpN n d) (hn : n ≤ 12) (q : Q (.bl false) H) : rNeD K v u H Q := by
  obtain ⟨g, w, dp⟩ := opn_nice o
  have h1 := dep_py d
  have c := (nice_ok d g).2.1
  have s : SeqAt.shaped d.py = true := by
    unfold SeqAt.shaped
    rw [c, decide_eq_true (show d.py.depth ≤ 64 by omega)]
    rfl
  refine ⟨d.py, d.py, Rdd.dpN d g r1, Rdd.dpN d g r2, s, s, ?_⟩
  rw [SeqAt.eqv_refl d.py c]
  exact q
theorem rEq_term {K : PySem.W.Frag} {H : Hp} {v u : V} {d : D} {n : Nat} {Q : VK} (r1 : Rdd K H v d) (r2 : Rdd K H u d) (o : OpN n d) (hn : n ≤ 12) (q : Q (.bl true) H) : rEqD K v u H Q := by
  obtain ⟨g, w, dp⟩ := opn_nice o
  have h1 := dep_py d
  have c := (nice_ok d g).2.1
  have s : SeqAt.shaped d.py = true := by
    unfold SeqAt.shaped
    rw [c, decide_eq_true (show d.py.depth ≤ 64 by omega)]
    rfl
  refine ⟨d.py, d.py, Rdd.dpN d g r1, Rdd.dpN d g r2, s, s, ?_⟩
  rw [SeqAt.eqv_refl d.py c]
  exact q
end Sl

set_option Elab.async false
set_option linter.all false
set_option maxRecDepth 100000
set_option maxHeartbeats 400000
namespace Sl
open PySem PySem.Spec PyProof.Rows L2
/-! ### names, letter by letter -/
abbrev sIsName : Stmt := topT 42
theorem scIsName : FnScope ["_law_sign_here", "_law_bad", "_law_one"] ["_law_sign_here"] (defScope sIsName) := ⟨rfl, rfl, rfl, by decide +kernel, rfl, by decide +kernel, by decide +kernel⟩
def abc : Str := "abcdefghijklmnopqrstuvwxyz"
theorem abc_mem (c : Nat) : decide (c ∈ abc.cps.toList) = decide (97 ≤ c ∧ c ≤ 122) := by
  have e : abc.cps.toList = List.range' 97 26 := by decide +kernel
  rw [e]
  refine decide_eq_decide.mpr ?_
  rw [List.mem_range'_1]
  omega
theorem low_alpha : ∀ c, c < 128 → PySem.Unicode.isAlpha c = (decide (65 ≤ c ∧ c ≤ 90) || decide (97 ≤ c ∧ c ≤ 122)) := by decide +kernel
theorem low_lower : ∀ c, c < 128 → PySem.Unicode.isLower c = decide (97 ≤ c ∧ c ≤ 122) := by decide +kernel
theorem low_upper : ∀ c, c < 128 → PySem.Unicode.isUpper c = decide (65 ≤ c ∧ c ≤ 90) := by decide +kernel
theorem low_title : ∀ c, c < 128 → PySem.Unicode.isTitle c = false := by decide +kernel
def lets (x : Str) : Bool := x.cps.toList.all fun c => decide (97 ≤ c ∧ c ≤ 122)
theorem lets_eq (x : Str) (h : 1 ≤ x.length) : (Txt.isascii x && (Txt.isalpha x && Txt.islower x)) = lets x := by
  have hl : 0 < x.cps.size := h
  have hne : x.cps.toList ≠ [] := fun z => by
    have e : x.cps.toList.length = 0 := by rw [z]; rfl
    rw [Array.length_toList] at e
    omega
  unfold Txt.isascii Txt.isalpha Txt.islower lets
  rw [← Array.all_toList, ← Array.all_toList, ← Array.any_toList, ← Array.any_toList, decide_eq_true (show x.length > 0 from hl), Bool.true_and]
  generalize x.cps.toList = l at hne
  by_cases ha : l.all (fun c => decide (c < 128)) = true
  · have ha' := List.all_eq_true.mp ha
    have low : ∀ c ∈ l, c < 128 := fun c hc => of_decide_eq_true (ha' c hc)
    rw [ha, Bool.true_and]
    by_cases hh : l.all (fun c => decide (97 ≤ c ∧ c ≤ 122)) = true
    · rw [hh]
      have hh' := List.all_eq_true.mp hh
      have b1 : l.all PySem.Unicode.isAlpha = true := List.all_eq_true.mpr fun c hc => by
        rw [low_alpha c (low c hc), hh' c hc, Bool.or_true]
      have b2 : l.any PySem.Unicode.isLower = true := by
        obtain ⟨c, hc⟩ := List.exists_mem_of_ne_nil l hne
        exact List.any_eq_true.mpr ⟨c, hc, by rw [low_lower c (low c hc)]; exact hh' c hc⟩
      have b3 : (l.any fun c => PySem.Unicode.isUpper c || PySem.Unicode.isTitle c) = false := Bool.eq_false_iff.mpr fun z => by
        obtain ⟨c, hc, hz⟩ := List.any_eq_true.mp z
        rw [low_upper c (low c hc), low_title c (low c hc), Bool.or_false] at hz
        have h1 := of_decide_eq_true hz
        have h2 := of_decide_eq_true (hh' c hc)
        omega
      rw [b1, b2, b3]
      rfl
    · rw [Bool.eq_false_iff.mpr hh]
      refine Bool.eq_false_iff.mpr fun z => hh ?_
      simp only [Bool.and_eq_true, Bool.not_eq_true'] at z
      obtain ⟨z1, z2, z3⟩ := z
      refine List.all_eq_true.mpr fun c hc => ?_
      have h1 := List.all_eq_true.mp z1 c hc
      rw [low_alpha c (low c hc)] at h1
      have h2 : PySem.Unicode.isUpper c = false := by
        cases e : PySem.Unicode.isUpper c
        · rfl
        · have : (l.any fun c => PySem.Unicode.isUpper c || PySem.Unicode.isTitle c) = true := List.any_eq_true.mpr ⟨c, hc, by rw [e]; rfl⟩
          rw [z3] at this
          cases this
      rw [low_upper c (low c hc)] at h2
      rw [h2, Bool.false_or] at h1
      exact h1
  · rw [Bool.eq_false_iff.mpr ha, Bool.false_and]
    refine (Bool.eq_false_iff.mpr fun z => ha ?_).symm
    refine List.all_eq_true.mpr fun c hc => ?_
    have := of_decide_eq_true (List.all_eq_true.mp z c hc)
    exact decide_eq_true (by omega)
theorem nm_eq (x : Str) : nmOk x = (lets x && (decide (0 < x.length ∧ x.length < 9) && !(x == "fun" || x == "let" || x == "in"))) := by
  unfold nmOk nmTail
  by_cases h : 1 ≤ x.length ∧ x.length ≤ 8
  · rw [decide_eq_true h, decide_eq_true (show 0 < x.length ∧ x.length < 9 by omega), Bool.true_and, Bool.true_and, ← lets_eq x h.1]
    generalize Txt.isascii x = a
    generalize Txt.isalpha x = b
    generalize Txt.islower x = c
    cases a <;> cases b <;> cases c <;> rfl
  · rw [decide_eq_false h, decide_eq_false (show ¬ (0 < x.length ∧ x.length < 9) by omega), Bool.false_and, Bool.false_and, Bool.and_false]
section
variable {P : Program} {w : World} {K : PySem.W.Frag} {mg : Str → Option Value} {base : Heap} {fNm : Addr} {fdNm : FuncData}
def spNm : Sp := fun vs H Q _ => ∃ x, vs = [V.str x] ∧ x.length ≤ 1000 ∧ ∀ H', Same H H' → Q (.bl (nmOk x)) H'
theorem ok_nm (F : Fun K "_law_is_name" "_law_is_name" sIsName fNm fdNm) (B : Bt mg) : FnOk P w K mg base CX0 1 fNm fdNm ["_law_sign_here"] spNm := by
  refine F.ok scIsName (fun vs H Q E h => ?_) (fun cdv A outer s H vs Q E hr h => ?_)
  · obtain ⟨x, rfl, _⟩ := h
    rfl
  · obtain ⟨x, rfl, hz, q⟩ := h
    refine ⟨_, pss_cons (ps_setLc (i := 1) (own := [("_law_one", 2)]) (g := gName 2) rfl scIsName.nd rfl rfl (sw_true rfl rfl rfl (by decide +kernel)) (pi_str (pv 0)) (blkOk_by (own := [("_law_one", 2)]) (N := ["_law_sign_here", "_law_bad", "_law_one"]) (sc := defScope sIsName) (by decide +kernel))
        (fun _ _ _ _ _ => pg_name (i := 2) scIsName.nd rfl (Or.inl rfl)) (fun _ _ _ _ _ => pts_one (pt_cmpR op_notIn_sign (pv 2) pe_str (by rfl))) (fun _ _ _ _ _ => pv 2))
      (pss_one (ps_ret (pe_and (pe_cmpR (op_eqL0 hr.units) (pv 1) (pe_lst pa_nil) (nomark _)) (pe_and (pe_chain op_lt op_lt pe_int (pe_callB call_len_str (by rfl) B.len PySem.boot_len (pa_cons (pv 0) pa_nil)) pe_int)
        (pe_one (pe_cmpR op_notIn_seq (pv 0) (pe_tup (pa_cons pe_str (pa_cons pe_str (pa_cons pe_str pa_nil)))) (by rfl))))))), ?_⟩
    have sl := sizeLine_eq
    refine ⟨.str x, rfl, x, rfl, fun D0 nD => ?_⟩
    refine lc_it walk_str (fun i H' => Off D0 H H' ∧ ∃ acc, H' D0 = some (.lst acc) ∧ acc.length ≤ i ∧ acc.isEmpty = (x.cps.toList.take i).all fun c => decide (97 ≤ c ∧ c ≤ 122)) ⟨.put, [], upd_same, Nat.le_refl _, rfl⟩ (fun _ _ _ _ => trivial) ?_ ?_
    · rintro i v H' _ hi ⟨ho, acc, ha, la, ea⟩ ⟨rfl, c, hc, rfl⟩
      have hc' : x.cps.toList[i]? = some c := by rw [Array.getElem?_toList]; exact hc
      have et : (x.cps.toList.take (i + 1)).all (fun c => decide (97 ≤ c ∧ c ≤ 122)) = ((x.cps.toList.take i).all (fun c => decide (97 ≤ c ∧ c ≤ 122)) && decide (97 ≤ c ∧ c ≤ 122)) := by
        rw [List.take_add_one, hc', List.all_append]
        simp
      refine ⟨rfl, _, rfl, c, abc, rfl, rfl, _, rfl, ?_⟩
      rw [abc_mem]
      refine ite2 (fun e => ?_) (fun e => ?_)
      · refine ⟨_, rfl, acc, ha, ?_, ho.trans .put, _, upd_same, by rw [List.length_append]; simp; omega, ?_⟩
        · have : x.cps.size = x.length := rfl
          omega
        · rw [et]
          have e' : decide (97 ≤ c ∧ c ≤ 122) = false := by
            cases h : decide (97 ≤ c ∧ c ≤ 122)
            · rfl
            · rw [h] at e
              cases e
          rw [e', Bool.and_false]
          cases acc <;> rfl
      · refine ⟨ho, acc, ha, by omega, ?_⟩
        have e' : decide (97 ≤ c ∧ c ≤ 122) = true := by
          cases h : decide (97 ≤ c ∧ c ≤ 122)
          · rw [h] at e
            exact absurd rfl e
          · rfl
        rw [et, e', Bool.and_true]
        exact ea
    · rintro H1 ⟨ho, acc, ha, la, ea⟩
      have s1 := same_off ho nD
      have en : nmOk x = (acc.isEmpty && (decide (0 < x.length ∧ x.length < 9) && !(x == "fun" || x == "let" || x == "in"))) := by
        rw [nm_eq, ea, List.take_of_length_le (by rw [Array.length_toList]; exact Nat.le_refl _)]
        rfl
      rw [en] at q
      refine ⟨.ref D0, rfl, (by show 0 ≤ sizeLine; decide), fun p np => ?_⟩
      have s2 := Same.new (o := .lst []) np
      have hp : (upd H1 p (.lst [])) p = some (.lst []) := upd_same
      generalize upd H1 p (.lst []) = H2 at s2 hp ⊢
      have s12 := s1.trans s2
      refine ⟨D0, p, acc, rfl, rfl, SqL.of (s2 _ _ ha), SqL.of hp, _, rfl, ite2 (fun e1 => ?_) (fun e1 => ?_)⟩
      · rw [e1, Bool.true_and] at q
        refine ⟨.str x, rfl, x, rfl, by omega, _, _, rfl, rfl, _, rfl, ite2 (fun e2 => ?_) (fun e2 => ?_)⟩
        · refine ⟨_, _, rfl, rfl, _, rfl, ite2 (fun e3 => ?_) (fun e3 => ?_)⟩
          · have h1 := of_decide_eq_true e2
            have h2 := of_decide_eq_true e3
            rw [decide_eq_true (show 0 < x.length ∧ x.length < 9 by omega), Bool.true_and] at q
            refine ⟨.str x, rfl, (by show 3 ≤ sizeLine; decide), fun t nt => ?_⟩
            have s3 := Same.new (o := .tup signs) nt
            refine ⟨t, signs, rfl, .inr (SqT.of upd_same), rfl, rfl, ?_⟩
            rw [if_pos rfl, inV_signs]
            exact q _ (s12.trans s3)
          · have h2 : ¬ (0 < x.length ∧ x.length < 9) := fun z => e3 (decide_eq_true (by omega))
            rw [decide_eq_false h2, Bool.false_and] at q
            exact q _ s12
        · have h2 : ¬ (0 < x.length ∧ x.length < 9) := fun z => e2 (decide_eq_true (by omega))
          rw [decide_eq_false h2, Bool.false_and] at q
          exact ⟨_, rfl, iteF (q _ s12)⟩
      · rw [Bool.eq_false_iff.mpr e1, Bool.false_and] at q
        exact q _ s12
end
end Sl

set_option Elab.async false
set_option linter.all false
set_option maxRecDepth 100000
set_option maxHeartbeats 400000
namespace Sl
open PySem PySem.Spec PyProof.Rows L2
/-! ### list(x), x a string -/
def chV (x : Str) : List V := x.cps.toList.map fun c => V.str ⟨#[c]⟩
theorem vals_of_get : ∀ {xs : List V} {us : List Value}, xs.length = us.length → (∀ (i : Nat) (x : V) (u : Value), xs[i]? = some x → us[i]? = some u → RelV x u) → Vals xs us
  | [], [], _, _ => .nil
  | [], _ :: _, h, _ => by simp at h
  | _ :: _, [], h, _ => by simp at h
  | x :: xs, u :: us, h, f => .cons (f 0 x u rfl rfl) (vals_of_get (by simpa using h) fun i y v a b => f (i + 1) y v a b)
def rListStr : List V → Hp → VK → Prop := fun vs H Q => ∃ x : Str, vs = [V.str x] ∧ x.length ≤ 1000 ∧ ∀ p, H p = none → Q (.ref p) (upd H p (.lst (chV x)))
theorem cr_listStr {X : Cx} (cool : X.calm = true) : CallR X (.type "list") rListStr := by
  intro pins z σ H vs us Q I r h
  obtain ⟨x, rfl, hz, q⟩ := h
  obtain ⟨u, rfl, t, rfl⟩ := vals1 r
  have sl := sizeLine_eq
  have ez : x.cps.size = x.length := rfl
  refine call_list_str (I.ok.hd cool) x t (fun h' tk acc c kp hd hi => ?_) (by omega)
  have hv : Vals (chV x) acc.toList := by
    refine vals_of_get (by unfold chV; rw [List.length_map, Array.length_toList, Array.length_toList, hi.1]) fun i y u a b => ?_
    unfold chV at a
    rw [List.getElem?_map, Array.getElem?_toList] at a
    obtain ⟨k, hk, rfl⟩ := Option.map_eq_some_iff.mp a
    rw [Array.getElem?_toList] at b
    obtain ⟨k2, t2, hk2, rfl⟩ := hi.2 i u b
    rw [hk] at hk2
    cases hk2
    exact ⟨t2, rfl⟩
  refine ⟨.ref z.heap.objs.size, upd H z.heap.objs.size (.lst (chV x)), I.laid (t' := tk) kp (Nat.le_refl _) ⟨by unfold chV; rw [List.length_map, Array.length_toList]; omega, acc.toList, c, hv, by rw [Array.toArray_toList]; exact hd⟩, rfl, q _ (I.hok.fresh (Nat.le_refl _))⟩
/-! ### strings near names -/
abbrev sSign : Stmt := topT 43
theorem scSign : FnScope ["_law_stream_here", "_law_sign_here", "_law_at", "_law_middle", "_law_more", "_law_turn"] ["_law_stream_here"] (defScope sSign) := ⟨rfl, rfl, rfl, by decide +kernel, rfl, by decide +kernel, by decide +kernel⟩
theorem slen_app (x y : Str) : (x ++ y).length = x.length + y.length := by
  show (x.cps ++ y.cps).size = _
  rw [Array.size_append]
  rfl
theorem cutS_len (z : Str) (lo hi : Option Int) : (cutS z lo hi).length ≤ z.length := by
  unfold cutS
  show ((z.cps.toList.drop _).take _).toArray.size ≤ z.cps.size
  rw [List.size_toArray, List.length_take, List.length_drop, Array.length_toList]
  omega
theorem join_len {ys : List Str} (h : ∀ y ∈ ys, y.length ≤ 1) : (Txt.join "" ys).length ≤ ys.length ∧ (ys.map (·.length)).sum ≤ ys.length := by
  have h1 : (ys.map (·.length)).sum ≤ ys.length := by
    induction ys with
    | nil => exact Nat.le_refl _
    | cons y ys ih =>
      have e1 := h y List.mem_cons_self
      have e2 := ih fun z hz => h z (List.mem_cons_of_mem _ hz)
      rw [List.map_cons, List.sum_cons, List.length_cons]
      omega
  refine ⟨?_, h1⟩
  have e : Txt.join "" ys = Str.join "" ys := StrLaws.glued_eq_join _ _
  rw [e]
  have := StrLaws.join_length_le "" ys
  have e0 : ("" : Str).length = 0 := by decide +kernel
  rw [e0, Nat.mul_zero] at this
  omega
def mids : List Str := ["", "", "", "A", "_", "1", " ", "-", "."]
def mores : List Str := ["fun", "let", "in", "funn", "lets", "inn", "un", "zzzzzzzz"]
theorem mids_len : ∀ x ∈ mids, x.length ≤ 1 := by decide +kernel
theorem mores_len : ∀ x ∈ mores, x.length ≤ 1000 := by decide +kernel
section
variable {P : Program} {w : World} {K : PySem.W.Frag} {mg : Str → Option Value} {base : Heap} {fSt fDr fPk fMx fSg : Addr} {fdSt fdDr fdPk fdMx fdSg : FuncData}
def spSign (K : PySem.W.Frag) : Sp := fun vs H Q _ => ∃ a, vs = [V.ref a] ∧ Stm a H ∧ ∀ x H', x.length ≤ 1000 → Jst a H H' → Q (.str x) H'
theorem ok_sign (F : Fun K "_law_sign" "_law_sign" sSign fSg fdSg) (L : Lw K mg fSt fDr fPk fMx fdSt fdDr fdPk fdMx) (B : Bt mg) : FnOk P w K mg base CX0 3 fSg fdSg ["_law_stream_here"] (spSign K) := by
  have GD : FnOk P w K mg base CX0 1 fDr fdDr ["_law_stream_here", "_law_high"] spDraw := g_draw L B
  have GP : FnOk P w K mg base CX0 2 fPk fdPk ["_law_stream_here", "_law_items"] (spPick K) := g_pick L B
  refine F.ok scSign (fun vs H Q E h => ?_) (fun cdv A outer s H vs Q E hr h => ?_)
  · obtain ⟨a, rfl, _⟩ := h
    rfl
  · obtain ⟨a, rfl, hs, q⟩ := h
    have h1 := hr.mono (by decide : 1 ≤ 2)
    have sl := sizeLine_eq
    refine ⟨_, (pss_cons (ps_set (i := 1) scSign.nd rfl (Or.inl rfl) (pe_join pe_str
        (pe_lc (own := [("_law_turn", 5)]) (g := gName 5) (tt := tYes) (te := tCall (spPick K) [] E0 (tCons (tVar 0) (tCons (tCB rListStr (tCons (tC (.str "abfunletiz")) tNil)) tNil))) rfl scSign.nd (pi_range1 (by rfl) B.range (pa_cons (pe_call GD h1 (by rfl) L.gDr L.FDr.kp L.bDr .nil pass0 (pa_cons (pv 0) (pa_cons pe_int pa_nil))) pa_nil))
          (blkOk_by (own := [("_law_turn", 5)]) (N := ["_law_stream_here", "_law_sign_here", "_law_at", "_law_middle", "_law_more", "_law_turn"]) (sc := defScope sSign) (by decide +kernel))
          (fun _ _ _ _ _ => pg_name (i := 5) scSign.nd rfl (Or.inl rfl)) (fun _ _ _ _ _ => pts_nil)
          (fun _ _ _ _ _ => by exact pe_call GP hr (by rfl) L.gPk L.FPk.kp L.bPk .nil pass0 (pa_cons (pv 0) (pa_cons (pe_callTy (cr_listStr rfl) (by rfl) B.list (by decide +kernel) (pa_cons pe_str pa_nil)) pa_nil))))))
      (pss_cons (ps_set (i := 2) scSign.nd rfl (Or.inl rfl) (pe_call GD h1 (by rfl) L.gDr L.FDr.kp L.bDr .nil pass0 (pa_cons (pv 0) (pa_cons (pe_op op_add (pe_callB call_len_str (by rfl) B.len PySem.boot_len (pa_cons (pv 1) pa_nil)) pe_int) pa_nil))))
      (pss_cons (ps_set (i := 3) scSign.nd rfl (Or.inl rfl) (pe_call GP hr (by rfl) L.gPk L.FPk.kp L.bPk .nil pass0 (pa_cons (pv 0) (pa_cons (pe_lst (pa_cons pe_str (pa_cons pe_str (pa_cons pe_str (pa_cons pe_str (pa_cons pe_str (pa_cons pe_str (pa_cons pe_str (pa_cons pe_str (pa_cons pe_str pa_nil)))))))))) pa_nil))))
      (pss_cons (ps_set (i := 4) scSign.nd rfl (Or.inl rfl) (pe_lst (pa_cons pe_str (pa_cons pe_str (pa_cons pe_str (pa_cons pe_str (pa_cons pe_str (pa_cons pe_str (pa_cons pe_str (pa_cons pe_str pa_nil))))))))))
      (pss_one (ps_ret (pe_call GP hr (by rfl) L.gPk L.FPk.kp L.bPk .nil pass0 (pa_cons (pv 0) (pa_cons (pe_op op_cat (pv 4) (pe_op op_rep (pe_lst (pa_cons (pe_op op_add_str (pe_op op_add_str (pe_slice sl_str (pv 1) po_none (po_some (pv 2))) (pv 3)) (pe_slice sl_str (pv 1) (po_some (pv 2)) po_none)) pa_nil)) pe_int)) pa_nil))))))))), ?_⟩
    refine ⟨⟨_, rfl⟩, .ref a, rfl, a, 10, rfl, hs, by decide, small_big (by decide), fun r H1 r0 r1 o1 hs1 => ⟨r, rfl, by omega, by omega, fun D0 nD => ?_⟩⟩
    have j1 : Jst a H H1 := ⟨hs, hs1, o1⟩
    refine lcJR (K := K) (J := Jst a) (Pd := fun _ d => ∃ y : Str, d = .str y ∧ y.length ≤ 1) (jr_st a) (.refl hs1) (by omega) nD ?_ ?_
    · intro i H2 Q2 Z2 _ j2 hQ
      refine ⟨rfl, ?_⟩
      refine iteT (B := Z2 H2) ⟨.ref a, rfl, _, rfl, by decide +kernel, fun p np => ?_⟩
      have s3 := Same.new (o := .lst (chV "abfunletiz")) np
      have h3 : (upd H2 p (.lst (chV "abfunletiz"))) p = some (.lst (chV "abfunletiz")) := upd_same
      have pa := j2.2.1.ne np
      generalize upd H2 p (.lst (chV "abfunletiz")) = H3 at s3 h3 ⊢
      have hs3 := j2.2.1.same s3
      refine ⟨a, p, chV "abfunletiz", rfl, hs3, pa, SqL.of h3, by decide +kernel, by decide +kernel, fun k x H4 hx o4 hs4 => ?_⟩
      unfold chV at hx
      rw [List.getElem?_map] at hx
      obtain ⟨c, _, rfl⟩ := Option.map_eq_some_iff.mp hx
      exact hQ _ H4 (.str ⟨#[c]⟩) ((Jst.same j2.2.1 s3).trans ⟨hs3, hs4, o4⟩) (.str _) ⟨_, rfl, Nat.le_refl _⟩
    · intro H2 zs ds j2 hD rz lz hds
      obtain ⟨ys, rfl, hy⟩ : ∃ ys : List Str, ds = ys.map D.str ∧ ∀ y ∈ ys, y.length ≤ 1 := by
        clear rz lz
        induction ds with
        | nil => exact ⟨[], rfl, fun y h => by cases h⟩
        | cons d ds ih =>
          obtain ⟨y, rfl, hy⟩ := hds 0 d rfl
          obtain ⟨ys, rfl, h2⟩ := ih fun j e he => hds (j + 1) e he
          refine ⟨y :: ys, rfl, fun z hz => ?_⟩
          rcases List.mem_cons.mp hz with rfl | hz
          · exact hy
          · exact h2 z hz
      have ez := strs_of rz
      subst ez
      rw [List.length_map] at lz
      have jl := join_len hy
      have e0 : ("" : Str).length = 0 := by decide +kernel
      refine ⟨_, D0, ys, rfl, rfl, .inl (SqL.of hD), by rw [e0, Nat.mul_zero]; omega, ?_⟩
      generalize Txt.join "" ys = sg at jl
      have hs2 := j2.2.1
      refine ⟨.ref a, rfl, _, rfl, sg, rfl, by omega, _, _, rfl, rfl, a, _, rfl, hs2, by omega, small_big (by omega), fun r2 H3 _ _ o3 hs3 => ?_⟩
      have j3 : Jst a H H3 := (j1.trans j2).trans ⟨hs2, hs3, o3⟩
      refine ⟨.ref a, rfl, pick_gv (G := H3) (ds := mids.map D.str) (gva_cons (gv_str "") (gva_cons (gv_str "") (gva_cons (gv_str "") (gva_cons (gv_str "A") (gva_cons (gv_str "_") (gva_cons (gv_str "1") (gva_cons (gv_str " ") (gva_cons (gv_str "-") (gva_cons (gv_str ".") gva_nil))))))))) (Same.refl _) hs3 (by decide) (by decide) fun x d H4 hd j4 rd => ?_⟩
      obtain ⟨md, hmd, rfl⟩ := List.mem_map.mp hd
      have lmd := mids_len md hmd
      cases rd
      have hs4 := j4.2.1
      delta gName tSeq tAsg
      dsimp only
      refine lst_gv (K := K) (G := H4) (ds := mores.map D.str) (gva_cons (gv_str "fun") (gva_cons (gv_str "let") (gva_cons (gv_str "in") (gva_cons (gv_str "funn") (gva_cons (gv_str "lets") (gva_cons (gv_str "inn") (gva_cons (gv_str "un") (gva_cons (gv_str "zzzzzzzz") gva_nil)))))))) (Same.refl _) (by decide) fun p vs H5 np s5 hp rv => ?_
      have ev := strs_of rv
      subst ev
      have hs5 := hs4.same s5
      have l1 := cutS_len sg none (some r2)
      have l2 := cutS_len sg (some r2) none
      refine ⟨.ref a, rfl, .ref p, rfl, .str sg, rfl, .int r2, rfl, r2, rfl, sg, rfl, by omega, .str md, rfl, _, _, rfl, rfl, by omega, .str sg, rfl, .int r2, rfl, r2, rfl, sg, rfl, by omega, _, _, rfl, rfl, by rw [slen_app]; omega, ?_⟩
      have lx : (cutS sg none (some r2) ++ md ++ cutS sg (some r2) none).length ≤ 1000 := by rw [slen_app, slen_app]; omega
      generalize cutS sg none (some r2) ++ md ++ cutS sg (some r2) none = x at lx
      refine ⟨(by show 1 ≤ sizeLine; decide), fun p6 n6 => ?_⟩
      have s6 := Same.new (o := .lst [V.str x]) n6
      have h6 : (upd H5 p6 (.lst [V.str x])) p6 = some (.lst [V.str x]) := upd_same
      generalize upd H5 p6 (.lst [V.str x]) = H6 at s6 h6 ⊢
      refine ⟨p6, 4, _, rfl, rfl, h6, by decide, by decide, (by show 1 * 4 ≤ sizeLine; decide), fun p7 n7 => ?_⟩
      have s7 := Same.new (o := .lst (List.replicate (4 : Int).toNat [V.str x]).flatten) n7
      have h7 : (upd H6 p7 (.lst (List.replicate (4 : Int).toNat [V.str x]).flatten)) p7 = some (.lst ([x, x, x, x].map V.str)) := upd_same
      generalize upd H6 p7 (.lst (List.replicate (4 : Int).toNat [V.str x]).flatten) = H7 at s7 h7 ⊢
      refine ⟨p, p7, _, _, rfl, rfl, s7 _ _ (s6 _ _ hp), h7, by rw [List.length_map, List.length_map]; show 8 + 4 ≤ sizeLine; omega, fun p8 n8 => ?_⟩
      have s8 := Same.new (o := .lst (mores.map V.str ++ [x, x, x, x].map V.str)) n8
      have h8 : (upd H7 p8 (.lst (mores.map V.str ++ [x, x, x, x].map V.str))) p8 = some (.lst ((mores ++ [x, x, x, x]).map V.str)) := by rw [List.map_append]; exact upd_same
      have s57 := s6.trans s7
      have pa8 := ((hs5.same s57)).ne n8
      generalize upd H7 p8 (.lst (mores.map V.str ++ [x, x, x, x].map V.str)) = H8 at s8 h8 ⊢
      have hs8 := (hs5.same s57).same s8
      have j8 : Jst a H H8 := (j3.trans j4).trans (.same hs4 ((s5.trans s57).trans s8))
      refine ⟨a, p8, _, rfl, hs8, pa8, SqL.of h8, by rw [List.length_map]; show 1 ≤ 12; decide, by rw [List.length_map]; show 12 ≤ 100000; decide, fun i y H9 hy9 o9 hs9 => ?_⟩
      obtain ⟨z, hz, rfl⟩ := strs_at' hy9
      refine q z H9 ?_ (j8.trans ⟨hs8, hs9, o9⟩)
      rcases List.mem_append.mp (List.mem_of_getElem? hz) with h | h
      · exact mores_len z h
      · simp only [List.mem_cons, List.not_mem_nil, or_false] at h
        rcases h with rfl | rfl | rfl | rfl <;> exact lx
end
end Sl

set_option Elab.async false
set_option linter.all false
set_option maxRecDepth 100000
set_option maxHeartbeats 400000
namespace Sl
open PySem PySem.Spec PyProof.Rows L2
abbrev sRight : Stmt := topT 45
theorem scRight : FnScope ["_law_stream_here", "_law_part_here", "_law_due", "_law_turn", "_law_sign_here"] ["_law_stream_here"] (defScope sRight) := ⟨rfl, rfl, rfl, by decide +kernel, rfl, by decide +kernel, by decide +kernel⟩
section
variable {P : Program} {w : World} {K : PySem.W.Frag} {mg : Str → Option Value} {base : Heap} {fN fD fB fI : Addr} {fdN fdD fdB fdI : FuncData} {fO fCP fCN fU fWO fF : Addr} {fdO fdCP fdCN fdU fdWO fdF : FuncData} {fLt fLO : Addr} {fdLt fdLO : FuncData} {fWd : Addr} {fdWd : FuncData} {fSt fDr fPk fMx : Addr} {fdSt fdDr fdPk fdMx : FuncData} {fLW : Addr} {fdLW : FuncData} {fIn fPa : Addr} {fdIn fdPa : FuncData} {fMd : Addr} {fdMd : FuncData} {fWi fPu fPs fWr fSo : Addr} {fdWi fdPu fdPs fdWr fdSo : FuncData} {fDn fBk fHd fSm fSg fNm fRi : Addr} {fdDn fdBk fdHd fdSm fdSg fdNm fdRi : FuncData}
structure Lri (K : PySem.W.Frag) (mg : Str → Option Value) (fSg fNm fRi : Addr) (fdSg fdNm fdRi : FuncData) : Prop where
  FSg : Fun K "_law_sign" "_law_sign" sSign fSg fdSg
  bSg : Binds K fdSg ["_law_stream_here"] []
  gSg : mg "_law_sign" = some (.ref fSg)
  FNm : Fun K "_law_is_name" "_law_is_name" sIsName fNm fdNm
  bNm : Binds K fdNm ["_law_sign_here"] []
  gNm : mg "_law_is_name" = some (.ref fNm)
  FRi : Fun K "_law_right" "_law_right" sRight fRi fdRi
  bRi : Binds K fdRi ["_law_stream_here"] []
  gRi : mg "_law_right" = some (.ref fRi)
def spRight : Sp := fun vs H Q _ => ∃ a, vs = [V.ref a] ∧ Stm a H ∧ ∀ H', Jst a H H' → Q (.bl true) H'
theorem ok_right (R : Lri K mg fSg fNm fRi fdSg fdNm fdRi) (S : Lsm K mg fSm fdSm) (C : Lps K mg fPs fWr fdPs fdWr) (Yd : Ld K mg fDn fBk fHd fdDn fdBk fdHd) (So : Lso K mg fSo fdSo) (Yq : Lq K mg fWi fPu fdWi fdPu) (D' : Lmd K mg fMd fdMd) (Z : Llt K mg fLt fLO fdLt fdLO) (W : Lwd K mg fWd fLW fdWd fdLW) (L : Lw K mg fSt fDr fPk fMx fdSt fdDr fdPk fdMx) (V' : Lp K mg fIn fPa fdIn fdPa) (M : Mks K mg fO fCP fCN fU fWO fF fdO fdCP fdCN fdU fdWO fdF) (T : Fns K mg fN fD fB fI fdN fdD fdB fdI) (U : Tops K mg) (B : Bt mg) :
    FnG P w K mg base (L2.CX P w) 19 fRi fdRi ["_law_stream_here"] spRight := by
  have GP : FnOk P w K mg base CX0 2 fPk fdPk ["_law_stream_here", "_law_items"] (spPick K) := g_pick L B
  have GSm : FnOk P w K mg base CX0 18 fSm fdSm ["_law_stream_here", "_law_seen"] (spSome K) := ok_some S C V' Yd L B
  have GSo : FnOk P w K mg base CX0 10 fSo fdSo ["_law_part_here"] (spSorted K 9) := ok_sorted So V' Yq B 8
  have GMd : FnOk P w K mg base CX0 17 fMd fdMd ["_law_stream_here", "_law_part_here"] (spMade K 9) := ok_made D' Z W L V' M T U B 8
  have GO : FnOk P w K mg base CX0 4 fO fdO ["value"] (spOpen K) := ok_open M.FO T U B
  have GWr : FnOk P w K mg base CX0 12 fWr fdWr ["_law_stream_here", "_law_part_here"] (spWrong K) := ok_wrong C V' Yq L B
  have GSg : FnOk P w K mg base CX0 3 fSg fdSg ["_law_stream_here"] (spSign K) := ok_sign R.FSg L B
  have GN : FnOk P w K mg base CX0 1 fN fdN ["value"] (spName K) := ok_name T.FN U B
  have GNm : FnOk P w K mg base CX0 1 fNm fdNm ["_law_sign_here"] spNm := ok_nm R.FNm B
  refine okG R.FRi scRight (fun vs H Q E h => ?_) (fun cdv A outer s H vs Q E hG hr h => ?_)
  · obtain ⟨a, rfl, _⟩ := h
    rfl
  · obtain ⟨a, rfl, hs, q⟩ := h
    have h1 := hr.mono (by decide : 1 ≤ 18)
    have h2 := hr.mono (by decide : 2 ≤ 18)
    have h3 := hr.mono (by decide : 3 ≤ 18)
    have h4 := hr.mono (by decide : 4 ≤ 18)
    have h10 := hr.mono (by decide : 10 ≤ 18)
    have h12 := hr.mono (by decide : 12 ≤ 18)
    have h17 := hr.mono (by decide : 17 ≤ 18)
    refine ⟨_, PSs.nox (pss_cons (ps_set (i := 1) scRight.nd rfl (Or.inl rfl) (pe_call GSm hr (by rfl) S.gSm S.FSm.kp S.bSm .nil pass0 (pa_cons (pv 0) (pa_cons (pe_call GP h2 (by rfl) L.gPk L.FPk.kp L.bPk .nil pass0 (pa_cons (pv 0) (pa_cons (pe_lst (pa_cons (pe_lst pa_nil) (pa_cons (pe_lst (pa_cons pe_str pa_nil)) (pa_cons (pe_lst (pa_cons pe_str (pa_cons pe_str (pa_cons pe_str pa_nil)))) pa_nil)))) pa_nil))) pa_nil))))
      (pss_cons (ps_set (i := 2) scRight.nd rfl (Or.inl rfl) (pe_call GSo h10 (by rfl) So.gSo So.FSo.kp So.bSo .nil pass0 (pa_cons (pv 1) pa_nil)))
      (pss_cons (ps_if (PW.pt (pw_or (pt_cmpR op_ne (pe_callB (call_repr (k := 18) hG hr) (by rfl) B.repr (by decide +kernel) (pa_cons (pe_call GMd h17 (by rfl) D'.gMd D'.FMd.kp D'.bMd .nil pass0 (pa_cons (pv 0) (pa_cons (pv 1) pa_nil))) pa_nil)) (pe_callB (call_repr (k := 18) hG hr) (by rfl) B.repr (by decide +kernel) (pa_cons (pv 2) pa_nil)) (nomark _))
          (pw_or (pt_cmpR op_notBl (pe_call GO h4 (by rfl) M.gO M.FO.kp M.bO .nil pass0 (pa_cons (pv 2) pa_nil)) pe_bl (nomark _)) (pw_or1 (pt_cmpR op_notBl (pe_call GO h4 (by rfl) M.gO M.FO.kp M.bO .nil pass0 (pa_cons (pv 1) pa_nil)) pe_bl (nomark _))))))
        (pss_one (ps_ret pe_bl))
        pss_nil)
      (pss_cons (ps_for PassesOwn.never rfl (pi_range1 (by rfl) B.range (pa_cons pe_int pa_nil)) (pg_name (i := 3) scRight.nd rfl (Or.inl rfl))
        (pss_one (ps_if (pt_cmpR op_notBl (pe_call GO h4 (by rfl) M.gO M.FO.kp M.bO .nil pass0 (pa_cons (pe_call GWr h12 (by rfl) C.gWr C.FWr.kp C.bWr .nil pass0 (pa_cons (pv 0) (pa_cons (pv 1) pa_nil))) pa_nil)) pe_bl (nomark _))
        (pss_one (ps_ret pe_bl))
        pss_nil)))
      (pss_cons (ps_for PassesOwn.never rfl (pi_range1 (by rfl) B.range (pa_cons pe_int pa_nil)) (pg_name (i := 3) scRight.nd rfl (Or.inl rfl))
        (pss_cons (ps_set (i := 4) scRight.nd rfl (Or.inl rfl) (pe_call GSg h3 (by rfl) R.gSg R.FSg.kp R.bSg .nil pass0 (pa_cons (pv 0) pa_nil)))
      (pss_one (ps_if (pt_cmpR op_ne (pe_callB (call_repr (k := 18) hG hr) (by rfl) B.repr (by decide +kernel) (pa_cons (pe_call GN h1 (by rfl) T.gN T.FN.kp T.bN .nil pass0 (pa_cons (pv 4) pa_nil)) pa_nil)) (pe_callB (call_repr (k := 18) hG hr) (by rfl) B.repr (by decide +kernel) (pa_cons (pe_call GNm h1 (by rfl) R.gNm R.FNm.kp R.bNm .nil pass0 (pa_cons (pv 4) pa_nil)) pa_nil)) (nomark _))
        (pss_one (ps_ret pe_bl))
        pss_nil))))
      (pss_one (ps_ret pe_bl))))))), ?_⟩
    refine ⟨.ref a, rfl, .ref a, rfl, (by show 0 ≤ sizeLine; decide), fun p1 n1 => ?_⟩
    have s1 := Same.new (o := .lst []) n1
    have e1 : (upd H p1 (.lst [])) p1 = some (.lst (([] : List Str).map V.str)) := upd_same
    generalize upd H p1 (.lst []) = H1 at s1 e1 ⊢
    refine ⟨(by show 1 ≤ sizeLine; decide), fun p2 n2 => ?_⟩
    have s2 := Same.new (o := .lst [V.str "x"]) n2
    have e2 : (upd H1 p2 (.lst [V.str "x"])) p2 = some (.lst ((["x"] : List Str).map V.str)) := upd_same
    generalize upd H1 p2 (.lst [V.str "x"]) = H2 at s2 e2 ⊢
    refine ⟨(by show 3 ≤ sizeLine; decide), fun p3 n3 => ?_⟩
    have s3 := Same.new (o := .lst [V.str "a", V.str "y", V.str "z"]) n3
    have e3 : (upd H2 p3 (.lst [V.str "a", V.str "y", V.str "z"])) p3 = some (.lst ((["a", "y", "z"] : List Str).map V.str)) := upd_same
    generalize upd H2 p3 (.lst [V.str "a", V.str "y", V.str "z"]) = H3 at s3 e3 ⊢
    refine ⟨(by show 3 ≤ sizeLine; decide), fun p4 n4 => ?_⟩
    have s4 := Same.new (o := .lst [V.ref p1, V.ref p2, V.ref p3]) n4
    have e4 : (upd H3 p4 (.lst [V.ref p1, V.ref p2, V.ref p3])) p4 = some (.lst [V.ref p1, V.ref p2, V.ref p3]) := upd_same
    generalize upd H3 p4 (.lst [V.ref p1, V.ref p2, V.ref p3]) = H4 at s4 e4 ⊢
    have hs1 := hs.same s1
    have hs2 := hs1.same s2
    have hs3 := hs2.same s3
    have hs4 := hs3.same s4
    refine ⟨a, p4, [V.ref p1, V.ref p2, V.ref p3], rfl, hs4, hs3.ne n4, SqL.of e4, (by show 1 ≤ 3; decide), (by show 3 ≤ 100000; decide), fun i x H5 hx o5 hs5 => ?_⟩
    have lx : ∃ l xs, x = V.ref l ∧ l ≠ a ∧ Sn K H5 l xs ∧ xs.length ≤ 300 := by
      match i, hx with
      | 0, hx =>
        cases hx
        exact ⟨p1, [], rfl, hs.ne n1, ⟨o5 _ _ (hs.ne n1) (s4 _ _ (s3 _ _ (s2 _ _ e1))), fun x h => by cases h⟩, by decide⟩
      | 1, hx =>
        cases hx
        exact ⟨p2, ["x"], rfl, hs1.ne n2, ⟨o5 _ _ (hs1.ne n2) (s4 _ _ (s3 _ _ e2)), by decide +kernel⟩, by decide⟩
      | 2, hx =>
        cases hx
        exact ⟨p3, ["a", "y", "z"], rfl, hs2.ne n3, ⟨o5 _ _ (hs2.ne n3) (s4 _ _ e3), by decide +kernel⟩, by decide⟩
      | n + 3, hx => simp at hx
    obtain ⟨l, xs, rfl, hla, hSn, lxs⟩ := lx
    have j05 : Jst a H H5 := (Jst.same hs (((s1.trans s2).trans s3).trans s4)).trans ⟨hs4, hs5, o5⟩
    refine ⟨a, l, xs, rfl, hs5, hla, hSn, lxs, fun v d H6 j6 rv o9 c9 => ?_⟩
    have j06 := j05.trans j6
    refine ⟨v, rfl, v, d, rfl, rv, o9, fun r H7 s7 rr => ?_⟩
    have so := srt_ok 9 d o9
    have j07 := j06.trans (Jst.same j6.2.1 s7)
    have rv7 := Rdd.ex (.same s7) _ rv
    have c5 : cnt 9 d ≤ 500 := by omega
    have cs5 : cnt 9 (srtD 9 d) ≤ 500 := by rw [so.2]; omega
    refine ⟨.ref a, rfl, v, rfl, a, v, d, rfl, j07.2.1, rv7, o9, by decide, c5, fun m H8 j8 rm => ?_⟩
    dsimp only [tNil]
    refine rRepr_term rm so.1 (by decide) cs5 ?_
    have rr8 := Rdd.ex ((jr_st a).ex j8) _ rr
    have rv8 := Rdd.ex ((jr_st a).ex j8) _ rv7
    have j08 := j07.trans j8
    refine ⟨r, rfl, ?_⟩
    dsimp only [tNil]
    refine rRepr_term rr8 so.1 (by decide) cs5 ⟨rfl, _, rfl, iteNS rfl ?_⟩
    refine ⟨r, rfl, r, srtD 9 d, rfl, rr8, so.1.hd, fun H9 s9 => ⟨_, true, rfl, rfl, _, rfl, ?_⟩⟩
    rw [isOpen_of so.1 (by decide) cs5]
    have rv9 := Rdd.ex (.same s9) _ rv8
    have j09 := j08.trans (Jst.same j08.2.1 s9)
    refine iteF ⟨v, rfl, v, d, rfl, rv9, o9.hd, fun H10 s10 => ⟨_, true, rfl, rfl, _, rfl, ?_⟩⟩
    rw [isOpen_of o9 (by decide) c5]
    have rv10 := Rdd.ex (.same s10) _ rv9
    have j010 := j09.trans (Jst.same j09.2.1 s10)
    refine iteF ?_
    refine ⟨6, rfl, by decide, by decide, for_range (n := 6) (fun i σ' H' => ∃ y3, σ' = [some (.ref a), some v, some r, y3, none] ∧ Jst a H H' ∧ Rdd K H' v d) ⟨none, rfl, j010, rv10⟩ ?_ ?_⟩
    · rintro i σ' G1 hi ⟨y3, rfl, jg, rvg⟩
      refine ⟨.ref a, rfl, v, rfl, a, v, d, 9, rfl, jg.2.1, rvg, o9, by decide, by omega, fun x e m G2 j2 rx hm bad hda => ?_⟩
      refine ⟨x, e, rfl, rx, hda, fun G3 s3 => ⟨_, false, rfl, rfl, _, rfl, ?_⟩⟩
      rw [isOpen_bad bad (by omega)]
      exact iteF ⟨_, rfl, (jg.trans j2).trans (Jst.same j2.2.1 s3), Rdd.ex (.same s3) _ (Rdd.ex ((jr_st a).ex j2) _ rvg)⟩
    · rintro σ' G1 ⟨y3, rfl, jg, rvg⟩
      refine ⟨6, rfl, by decide, by decide, for_range (n := 6) (fun i σ' H' => ∃ y3 y4, σ' = [some (.ref a), some v, some r, y3, y4] ∧ Jst a H H') ⟨_, _, rfl, jg⟩ ?_ ?_⟩
      · rintro i σ' G2 hi ⟨z3, z4, rfl, j2⟩
        refine ⟨.ref a, rfl, a, rfl, j2.2.1, fun x G3 lx j3 => ?_⟩
        refine ⟨.str x, rfl, .str x, .str x, rfl, .str x, decide_eq_true lx, ?_⟩
        dsimp only [tNil]
        refine rRepr_of (.bl _) rfl (by simp only [D.dep]; omega) (by simp only [D.wt]; omega) ?_
        refine ⟨.str x, rfl, x, rfl, lx, fun G4 s4 => ?_⟩
        dsimp only [tNil]
        refine rRepr_of (.bl _) rfl (by simp only [D.dep]; omega) (by simp only [D.wt]; omega) ⟨rfl, _, rfl, iteNS rfl ?_⟩
        exact ⟨_, _, rfl, (j2.trans j3).trans (Jst.same j3.2.1 s4)⟩
      · rintro σ' G2 ⟨z3, z4, rfl, j2⟩
        exact q G2 j2
end
end Sl

set_option Elab.async false
set_option linter.all false
set_option maxRecDepth 100000
set_option maxHeartbeats 400000
namespace Sl
open PySem PySem.Spec PyProof.Rows L2 StX
abbrev sLaw : Stmt := topT 46
abbrev nLaw : List Str := ["_law_script", "_law_at", "_law_stream_here", "_law_turn", "_law_told", "_law_inner_here", "_law_one"]
theorem scLaw : FnScope nLaw ["_law_script"] (defScope sLaw) := ⟨rfl, rfl, rfl, by decide +kernel, rfl, by decide +kernel, by decide +kernel⟩
theorem rEq_lst {K : PySem.W.Frag} {H : Hp} {l p : Addr} {xs ys : List V} {ds : List D} {Q : VK} (hl : H l = some (.lst xs)) (hp : H p = some (.lst ys)) (r1 : RddAll K H xs ds) (r2 : RddAll K H ys ds) (g : D.goods ds = true) (hd : D.deps ds ≤ 40) (q : Q (.bl true) H) : rEqD K (.ref l) (.ref p) H Q := by
  have h1 := deps_py ds
  have c : (PyData.list (D.pys ds)).canLay0 = true := by
    simp only [PyData.canLay0]
    exact (goods_show ds g).2
  have s : SeqAt.shaped (PyData.list (D.pys ds)) = true := by
    unfold SeqAt.shaped
    rw [c, decide_eq_true (show (PyData.list (D.pys ds)).depth ≤ 64 by simp only [PyData.depth]; omega)]
    rfl
  refine ⟨.list (D.pys ds), .list (D.pys ds), .lst (SqL.of hl) (RddAll.dp ds g r1), .lst (SqL.of hp) (RddAll.dp ds g r2), s, s, ?_⟩
  rw [SeqAt.eqv_refl _ c]
  exact q
def odds : List D := [.non, .int 1, .bl true, .lst, .tup [.str "a"], .dct, .str "", .str "a", .str "abcdefgh", .str "abcdefghi"]
def toldD : List D := [.bl false, .bl false, .bl false, .bl false, .bl false, .bl false, .bl false, .bl true, .bl true, .bl false]
theorem odds_told : odds.map (fun d => D.bl d.isName) = toldD := by
  have : odds.map D.isName = [false, false, false, false, false, false, false, true, true, false] := by decide +kernel
  have e : odds.map (fun d => D.bl d.isName) = (odds.map D.isName).map D.bl := by rw [List.map_map]; rfl
  rw [e, this]
  rfl
theorem odds_small : ∀ d ∈ odds, d.small = true := by
  intro d hd
  simp only [odds, List.mem_cons, List.not_mem_nil, or_false] at hd
  rcases hd with rfl | rfl | rfl | rfl | rfl | rfl | rfl | rfl | rfl | rfl <;> decide +kernel
def tIn : D := mkW "f" [mkW "g" [mkU "x"]]
def tOne : D := mkL [("x", tIn)] (mkU "x")
theorem one_ok : DefOk [("x", tIn)] := ⟨by decide, by decide, by simp only [List.mem_singleton, forall_eq]; decide +kernel, by simp⟩
theorem in_op : OpN 3 tIn := op_W (n := 2) (by decide +kernel) (by decide) fun e he => by
  rw [List.mem_singleton.mp he]
  exact op_W (n := 1) (by decide +kernel) (by decide) fun e he => by
    rw [List.mem_singleton.mp he]
    exact op_U (n := 0) (by decide +kernel)
theorem one_op : OpN 4 tOne := op_L one_ok (by decide) (fun p hp => by rw [List.mem_singleton.mp hp]; exact in_op) (op_U (n := 2) (by decide +kernel))
def psBA : List (Str × D) := [("b", mkU "a"), ("a", mkW "k" [])]
def psAB : List (Str × D) := [("a", mkW "k" []), ("b", mkU "a")]
theorem ba_ok : DefOk psBA := ⟨by decide, by decide, by
  intro p hp
  simp only [psBA, List.mem_cons, List.not_mem_nil, or_false] at hp
  rcases hp with rfl | rfl <;> decide +kernel, by
  show (["b", "a"] : List Str).Nodup
  decide +kernel⟩
theorem ab_perm : psAB.Perm psBA := List.Perm.swap _ _ _
theorem ab_ok : DefOk psAB := defOk_perm ab_perm ba_ok
theorem ab_srt : srtP psAB = srtP psBA := srtP_uniq ab_ok.2.2.2 ab_perm
def tTwo : D := mkL (srtP psBA) (mkU "a")
theorem two_op : OpN 2 tTwo := op_L (defOk_perm (srtP_perm _) ba_ok) (by rw [(srtP_perm _).length_eq]; decide) (fun p hp => by
  have := (srtP_perm psBA).mem_iff.mp hp
  simp only [psBA, List.mem_cons, List.not_mem_nil, or_false] at this
  rcases this with rfl | rfl
  · exact op_U (n := 0) (by decide +kernel)
  · exact op_W (n := 0) (by decide +kernel) (by decide) fun e he => by cases he) (op_U (n := 0) (by decide +kernel))
theorem okd_cnt {n : Nat} {d : D} (o : OpN n d) (hn : n ≤ 4) : Okd d := ⟨n, by omega, o, by
  have h1 := cnt_le n d o
  have : wide n ≤ 85 := by
    have : n = 0 ∨ n = 1 ∨ n = 2 ∨ n = 3 ∨ n = 4 := by omega
    rcases this with rfl | rfl | rfl | rfl | rfl <;> decide
  omega⟩
theorem k_op : OpN 1 (mkW "k" []) := op_W (n := 0) (by decide +kernel) (by decide) fun e he => by cases he
section
variable {P : Program} {w : World} {K : PySem.W.Frag} {mg : Str → Option Value} {base : Heap} {fN fD fB fI : Addr} {fdN fdD fdB fdI : FuncData} {fO fCP fCN fU fWO fF : Addr} {fdO fdCP fdCN fdU fdWO fdF : FuncData} {fLt fLO : Addr} {fdLt fdLO : FuncData} {fWd : Addr} {fdWd : FuncData} {fSt fDr fPk fMx : Addr} {fdSt fdDr fdPk fdMx : FuncData} {fLW : Addr} {fdLW : FuncData} {fIn fPa : Addr} {fdIn fdPa : FuncData} {fMd : Addr} {fdMd : FuncData} {fWi fPu fPs fWr fSo : Addr} {fdWi fdPu fdPs fdWr fdSo : FuncData} {fDn fBk fHd fSm fSg fNm fRi : Addr} {fdDn fdBk fdHd fdSm fdSg fdNm fdRi : FuncData} {fLa : Addr} {fdLa : FuncData}
def spLaw (K : PySem.W.Frag) : Sp := fun vs H Q _ => ∃ (a : Addr) (ns : List Int), vs = [.ref a] ∧ SqL K H a (ns.map V.int) ∧ ns.length ≤ 100000 ∧ ∀ H', Q (.bl true) H'
theorem ok_law (FLa : Fun K "law" "law" sLaw fLa fdLa) (R : Lri K mg fSg fNm fRi fdSg fdNm fdRi) (S : Lsm K mg fSm fdSm) (C : Lps K mg fPs fWr fdPs fdWr) (Yd : Ld K mg fDn fBk fHd fdDn fdBk fdHd) (So : Lso K mg fSo fdSo) (Yq : Lq K mg fWi fPu fdWi fdPu) (D' : Lmd K mg fMd fdMd) (Z : Llt K mg fLt fLO fdLt fdLO) (W : Lwd K mg fWd fLW fdWd fdLW) (L : Lw K mg fSt fDr fPk fMx fdSt fdDr fdPk fdMx) (V' : Lp K mg fIn fPa fdIn fdPa) (M : Mks K mg fO fCP fCN fU fWO fF fdO fdCP fdCN fdU fdWO fdF) (T : Fns K mg fN fD fB fI fdN fdD fdB fdI) (U : Tops K mg) (B : Bt mg) :
    FnG P w K mg base (L2.CX P w) 20 fLa fdLa ["_law_script"] (spLaw K) := by
  have GSt : FnOk P w K mg base CX0 1 fSt fdSt ["_law_script", "_law_at"] (spStream K) := ok_stream L.FSt B
  have GRi : FnG P w K mg base (L2.CX P w) 19 fRi fdRi ["_law_stream_here"] spRight := ok_right R S C Yd So Yq D' Z W L V' M T U B
  have GN : FnOk P w K mg base CX0 1 fN fdN ["value"] (spName K) := ok_name T.FN U B
  have GU : FnOk P w K mg base CX0 3 fU fdU ["name"] (spUse K) := ok_use M T U B
  have GWO : FnOk P w K mg base CX0 6 fWO fdWO ["name", "terms"] (spWordOf K) := ok_wordof M T U B
  have GL : FnOk P w K mg base CX0 6 fLO fdLO ["term", "definitions"] (spLetOf K) := ok_letof Z.FLO M T U B
  have GWd : FnR P w K mg base CX0 7 fWd (spWord K) := ok_word W.FWd M T U B
  have G1 : FnKw P w K mg base CX0 7 fLt ["x"] (spLet K ["x"]) := ok_let1 Z M T U B
  have G3 : FnKw P w K mg base CX0 7 fLt ["a", "b"] (spLet K ["a", "b"]) := ok_let3 Z M T U B
  refine okG FLa scLaw (fun vs H Q E h => ?_) (fun cdv A outer s H vs Q E hG hr h => ?_)
  · obtain ⟨a, _, rfl, _⟩ := h
    rfl
  · obtain ⟨a, ns, rfl, hs, hz, q⟩ := h
    have h1 := hr.mono (by decide : 1 ≤ 19)
    have h3 := hr.mono (by decide : 3 ≤ 19)
    have h6 := hr.mono (by decide : 6 ≤ 19)
    have h7 := hr.mono (by decide : 7 ≤ 19)
    refine ⟨_, PSs.nox (pss_cons (ps_for PassesOwn.never rfl (pi_range1 (by rfl) B.range (pa_cons (pe_callB (call_max2 rfl) (by rfl) B.max (by decide +kernel) (pa_cons pe_int (pa_cons (pe_callB (call_min2 rfl) (by rfl) B.min (by decide +kernel) (pa_cons pe_int (pa_cons (pe_callB call_len_seq (by rfl) B.len PySem.boot_len (pa_cons (pv 0) pa_nil)) pa_nil))) pa_nil))) pa_nil)) (pg_name (i := 1) scLaw.nd rfl (Or.inl rfl))
        (pss_cons (ps_set (i := 2) scLaw.nd rfl (Or.inl rfl) (pe_call GSt h1 (by rfl) L.gSt L.FSt.kp L.bSt .nil pass0 (pa_cons (pv 0) (pa_cons (pv 1) pa_nil))))
      (pss_one (ps_for PassesOwn.never rfl (pi_range1 (by rfl) B.range (pa_cons pe_int pa_nil)) (pg_name (i := 3) scLaw.nd rfl (Or.inl rfl))
        (pss_one (ps_if (pt_not (pt_val (pe_callG hG GRi hr (by rfl) R.gRi R.FRi.kp R.bRi .nil passL (pa_cons (pv 2) pa_nil))))
        (pss_one (ps_ret pe_bl))
        pss_nil))))))
      (pss_cons (ps_setLc (i := 4) (own := [("_law_one", 6)]) (g := gName 6) (tt := tYes) (te := tCall (spName K) [] E0 (tCons (tVar 6) tNil)) rfl scLaw.nd rfl rfl (sw_true rfl rfl rfl (by decide +kernel)) (pi_tup (pe_tup (pa_cons pe_non (pa_cons pe_int (pa_cons pe_bl (pa_cons (pe_lst (pa_cons pe_str pa_nil)) (pa_cons (pe_tup (pa_cons pe_str pa_nil)) (pa_cons pe_dnewK (pa_cons pe_str (pa_cons pe_str (pa_cons pe_str (pa_cons pe_str pa_nil)))))))))))) (blkOk_by (own := [("_law_one", 6)]) (N := nLaw) (sc := defScope sLaw) (by decide +kernel)) (fun _ _ _ _ _ => pg_name (i := 6) scLaw.nd rfl (Or.inl rfl)) (fun _ _ _ _ _ => pts_nil)
          (fun _ _ _ _ _ => by exact pe_call GN h1 (by rfl) T.gN T.FN.kp T.bN .nil pass0 (pa_cons (pv 6) pa_nil)))
      (pss_cons (ps_set (i := 5) scLaw.nd rfl (Or.inl rfl) (pe_callR GWd h7 W.FWd.kp (by rfl) W.gWd pass0 (pa_cons pe_str (pa_cons (pe_callR GWd h7 W.FWd.kp (by rfl) W.gWd pass0 (pa_cons pe_str (pa_cons (pe_call GU h3 (by rfl) M.gU M.FU.kp M.bU .nil pass0 (pa_cons pe_str pa_nil)) pa_nil))) pa_nil))))
      (pss_cons (ps_if (pt_cmpR (op_neD hr.units) (pe_callKw G1 h7 Z.FLt.kp (by rfl) Z.gLt pass0 (pa_cons (pe_call GU h3 (by rfl) M.gU M.FU.kp M.bU .nil pass0 (pa_cons pe_str pa_nil)) pa_nil) (pk_cons (pv 5) pk_nil)) (pe_tup (pa_cons pe_str (pa_cons (pe_tup (pa_cons (pe_tup (pa_cons pe_str (pa_cons (pe_tup (pa_cons pe_str (pa_cons pe_str (pa_cons (pe_tup (pa_cons (pe_tup (pa_cons pe_str (pa_cons pe_str (pa_cons (pe_tup (pa_cons (pe_tup (pa_cons pe_str (pa_cons pe_str pa_nil))) pa_nil)) pa_nil)))) pa_nil)) pa_nil)))) pa_nil))) pa_nil)) (pa_cons (pe_tup (pa_cons pe_str (pa_cons pe_str pa_nil))) pa_nil)))) (nomark _))
        (pss_one (ps_ret pe_bl))
        pss_nil)
      (pss_cons (ps_if (pt_cmpR (op_neD hr.units) (pe_call GL h6 (by rfl) Z.gLO Z.FLO.kp Z.bLO .nil pass0 (pa_cons (pe_call GU h3 (by rfl) M.gU M.FU.kp M.bU .nil pass0 (pa_cons pe_str pa_nil)) (pa_cons (pe_disp (pps_cons pe_str (pe_call GU h3 (by rfl) M.gU M.FU.kp M.bU .nil pass0 (pa_cons pe_str pa_nil)) (pps_cons pe_str (pe_callR GWd h7 W.FWd.kp (by rfl) W.gWd pass0 (pa_cons pe_str pa_nil)) pps_nil)) rfl rfl (by simp) (by decide)) pa_nil)))
          (pe_callKw G3 h7 Z.FLt.kp (by rfl) Z.gLt pass0 (pa_cons (pe_call GU h3 (by rfl) M.gU M.FU.kp M.bU .nil pass0 (pa_cons pe_str pa_nil)) pa_nil) (pk_cons (pe_callR GWd h7 W.FWd.kp (by rfl) W.gWd pass0 (pa_cons pe_str pa_nil)) (pk_cons (pe_call GU h3 (by rfl) M.gU M.FU.kp M.bU .nil pass0 (pa_cons pe_str pa_nil)) pk_nil))) (nomark _))
        (pss_one (ps_ret pe_bl))
        pss_nil)
      (pss_one (ps_ret (pe_and (pe_cmpR (op_eqD hr.units) (pv 4) (pe_op op_cat (pe_op op_rep (pe_lst (pa_cons pe_bl pa_nil)) pe_int) (pe_lst (pa_cons pe_bl (pa_cons pe_bl (pa_cons pe_bl pa_nil))))) (nomark _)) (pe_one (pe_cmpR (op_eqD hr.units) (pe_call GWO h6 (by rfl) M.gWO M.FWO.kp M.bWO .nil pass0 (pa_cons pe_str (pa_cons (pe_tup pa_nil) pa_nil))) (pe_tup (pa_cons pe_str (pa_cons pe_str (pa_cons (pe_tup pa_nil) pa_nil)))) (nomark _))))))))))), ?_⟩
    refine ⟨.ref a, rfl, a, _, rfl, .inl hs, 8, _, rfl, 1, _, rfl, _, rfl, ?_⟩
    generalize ((List.map V.int ns).length : Int) = LL
    generalize hR : (if (if LL < 8 then LL else 8) > 1 then (if LL < 8 then LL else 8) else (1 : Int)) = RR
    have hR1 : 1 ≤ RR ∧ RR ≤ 8 := by
      rw [← hR]
      repeat' split
      all_goals omega
    refine ⟨by omega, by omega, for_range (n := RR.toNat) (fun i σ' H' => ∃ y1 y2 y3, σ' = [some (.ref a), y1, y2, y3, none, none, none] ∧ Same H H') ⟨none, none, none, rfl, Same.refl _⟩ ?_ ?_⟩
    · rintro i σ' H1 hi ⟨y1, y2, y3, rfl, s1⟩
      refine ⟨.ref a, rfl, .int (0 + (i : Int)), rfl, a, ns, i, by rw [Int.zero_add]; rfl, ?_, fun p H2 np s2 st2 => ?_⟩
      · rcases hs with (h | ⟨ob, h⟩) | h
        · exact .inl (.inl (s1 _ _ h))
        · exact .inl (.inr ⟨ob, s1 _ _ h⟩)
        · exact .inr h
      refine ⟨4, rfl, by decide, by decide, for_range (n := 4) (fun j σ' H' => ∃ y3, σ' = [some (.ref a), some (.int (0 + (i : Int))), some (.ref p), y3, none, none, none] ∧ Jst p H2 H') ⟨_, rfl, .refl st2⟩ ?_ ?_⟩
      · rintro j σ' H3 hj ⟨y3, rfl, j3⟩
        refine ⟨.ref p, rfl, p, rfl, j3.2.1, fun H4 j4 => ?_⟩
        exact ⟨true, rfl, iteF ⟨_, rfl, j3.trans j4⟩⟩
      · rintro σ' H3 ⟨y3, rfl, j3⟩
        exact ⟨_, _, _, rfl, s1.trans (fun b o hb => j3.2.2 b o (ne_of_none hb np) (s2 _ _ hb))⟩
    · rintro σ' H1 ⟨y1, y2, y3, rfl, s1⟩
      have sl := sizeLine_eq
      dsimp only
      unfold tSeq tAsg tLc iTup
      dsimp only
      refine (gv_tup (K := K) (G := H1) (ds := odds) (gva_cons gv_non (gva_cons (gv_int 1) (gva_cons (gv_bl true) (gva_cons (gv_lst (gva_cons (gv_str "a") gva_nil)) (gva_cons (gv_tup (gva_cons (gv_str "a") gva_nil)) (gva_cons (gv_dict (te := tDNewK) fun _ _ h => h) (gva_cons (gv_str "") (gva_cons (gv_str "a") (gva_cons (gv_str "abcdefgh") (gva_cons (gv_str "abcdefghi") gva_nil)))))))))) (Nat.le_of_ble_eq_true rfl)) H1 _ (Same.refl _) fun v H2 s2 rv => ?_
      obtain ⟨t, us, rfl, ht, ru, _⟩ := rv.tupd'
      have lu : us.length = 10 := ru.length
      refine ⟨t, rfl, ⟨_, ht⟩, fun D0 nD => lcJT (K := K) (J := Same) (Pd := fun i e => ((odds.map fun d => D.bl d.isName)[i]? = some e)) jr_same (Same.refl _) (by omega) ht nD ?_ ?_⟩
      · intro i y H3 Q3 Z3 hy s3 hQ
        refine ⟨rfl, ?_⟩
        obtain ⟨e, he, re⟩ := ru.get hy
        refine iteT (B := Z3 H3) ⟨y, rfl, y, e, rfl, Rdd.ex (.same s3) _ re, odds_small e (List.mem_of_getElem? he), hQ _ H3 (.bl e.isName) (Same.refl _) (.bl _) ?_⟩
        rw [List.getElem?_map, he]
        rfl
      · intro H3 ys ds s3 hD ra la hds
        have ed := ds_eq (by rw [List.length_map, la, lu]; rfl) hds
        subst ed
        rw [odds_told] at ra
        have s13 := s2.trans s3
        have nx : nmOk "x" = true := by decide +kernel
        have na : nmOk "a" = true := by decide +kernel
        have nk : nmOk "k" = true := by decide +kernel
        have nf : nmOk "f" = true := by decide +kernel
        have ng : nmOk "g" = true := by decide +kernel
        refine ⟨"x", rfl, nx, fun v1 H4 s4 r1 => ⟨"g", [v1], [mkU "x"], rfl, .cons r1 .nil, by decide, ng, okd_cnt (n := 2) (op_W (n := 1) ng (by decide) fun e he => by rw [List.mem_singleton.mp he]; exact op_U (n := 0) nx) (by decide), fun v2 H5 s5 r2 => ⟨"f", [v2], [mkW "g" [mkU "x"]], rfl, .cons r2 .nil, by decide, nf, okd_cnt in_op (by decide), fun v3 H6 s6 r3 => ?_⟩⟩⟩
        refine ⟨"x", rfl, nx, fun v4 H7 s7 r4 => ⟨v3, rfl, v4, mkU "x", [tIn], rfl, r4, .cons (Rdd.ex (.same s7) _ r3) .nil, rfl, one_ok, okd_cnt one_op (by decide), fun v5 H8 s8 r5 => ?_⟩⟩
        have gU : ∀ {σ : L2.St} {G : Hp} {x : Str}, Gv K σ G (tTup (tCons (tC (.str "name")) (tCons (tC (.str x)) tNil))) (mkU x) := gv_tup (gva_cons (gv_str _) (gva_cons (gv_str _) gva_nil)) (Nat.le_of_ble_eq_true rfl)
        refine (gv_tup (K := K) (G := H8) (gva_cons (gv_str "let") (gva_cons (gv_tup (gva_cons (gv_tup (gva_cons (gv_str "x") (gva_cons (gv_tup (gva_cons (gv_str "word") (gva_cons (gv_str "f") (gva_cons (gv_tup (gva_cons (gv_tup (gva_cons (gv_str "word") (gva_cons (gv_str "g") (gva_cons (gv_tup (gva_cons gU gva_nil) (Nat.le_of_ble_eq_true rfl)) gva_nil))) (Nat.le_of_ble_eq_true rfl)) gva_nil) (Nat.le_of_ble_eq_true rfl)) gva_nil))) (Nat.le_of_ble_eq_true rfl)) gva_nil)) (Nat.le_of_ble_eq_true rfl)) gva_nil) (Nat.le_of_ble_eq_true rfl)) (gva_cons gU gva_nil))) (Nat.le_of_ble_eq_true rfl)) H8 _ (Same.refl _) fun v6 H9 s9 r6 => ?_
        refine rNe_term (d := tOne) (n := 4) (Rdd.ex (.same s9) _ r5) r6 one_op (by decide) ⟨_, rfl, iteF ?_⟩
        have s39 : Same H3 H9 := ((((s4.trans s5).trans s6).trans s7).trans s8).trans s9
        have hD9 := s39 _ _ hD
        have ra9 := RddAll.ex (.same s39) _ ra
        refine ⟨"a", rfl, na, fun v7 H10 s10 r7 => fun p np => ⟨"a", rfl, na, fun v8 H11 s11 r8 => ⟨"k", [], [], rfl, .nil, by decide, nk, okd_cnt k_op (by decide), fun v9 H12 s12 r9 => ?_⟩⟩⟩
        have s0 := Same.new (o := .dK []) np
        have h12 : H12 p = some (.dK []) := (s11.trans s12) _ _ upd_same
        have s1012 : Same H10 H12 := (s0.trans s11).trans s12
        refine ⟨h12, [(.inr "b", v8), (.inr "a", v9)], rfl, Nat.le_of_ble_eq_true rfl, ?_⟩
        have kp : ∀ b xs, SqT K H12 b xs → SqT K (upd H12 p (.dK (mergeK [] [(.inr "b", v8), (.inr "a", v9)]))) b xs := sqT_dict h12
        have hm : mergeK [] [(.inr "b", v8), (.inr "a", v9)] = [(.inr "b", v8), (.inr "a", v9)] := merge_new (acc := []) (by
          show (([.inr "b", .inr "a"] : List Key)).Nodup
          decide +kernel)
        have hD13 : (upd H12 p (.dK (mergeK [] [(.inr "b", v8), (.inr "a", v9)]))) D0 = some (.lst ys) := by
          have e : D0 ≠ p := ne_of_none (s10 _ _ hD9) np
          rw [upd_ne e]
          exact s1012 _ _ (s10 _ _ hD9)
        have h13 : (upd H12 p (.dK (mergeK [] [(.inr "b", v8), (.inr "a", v9)]))) p = some (.dK [(.inr "b", v8), (.inr "a", v9)]) := by
          rw [upd_same, hm]
        have ra12 := RddAll.ex (.same (s10.trans s1012)) _ ra9
        have ra13 := RddAll.keep kp toldD (by simp [toldD, D.pures, D.pure]) ra12
        have r713 := Rdd.keep kp (mkU "a") (by simp [mkU, D.pure, D.pures]) (Rdd.ex (.same s1012) _ r7)
        have r813 := Rdd.keep kp (mkU "a") (by simp [mkU, D.pure, D.pures]) (Rdd.ex (.same s12) _ r8)
        have r913 := Rdd.keep kp (mkW "k" []) (by simp [mkW, D.pure, D.pures]) r9
        generalize upd H12 p (.dK (mergeK [] [(.inr "b", v8), (.inr "a", v9)])) = H13 at hD13 h13 ra13 r713 r813 r913 ⊢
        have okd2 : Okd tTwo := okd_cnt two_op (by decide)
        refine ⟨v7, mkU "a", p, psBA, rfl, r713, ⟨_, h13, rfl, .cons r813 (.cons r913 .nil)⟩, by decide, ba_ok, okd2, fun v10 H14 s14 r10 => ?_⟩
        refine ⟨"a", rfl, na, fun v11 H15 s15 r11 => ⟨"k", [], [], rfl, .nil, by decide, nk, okd_cnt k_op (by decide), fun v12 H16 s16 r12 => ⟨"a", rfl, na, fun v13 H17 s17 r13 => ⟨v11, mkU "a", [mkW "k" [], mkU "a"], rfl, Rdd.ex (.same (s16.trans s17)) _ r11, .cons (Rdd.ex (.same s17) _ r12) (.cons r13 .nil), rfl, ab_ok, ?_, fun v14 H18 s18 r14 => ?_⟩⟩⟩⟩
        · show Okd (mkL (srtP psAB) (mkU "a"))
          rw [ab_srt]
          exact okd2
        · have r14' : Rdd K H18 v14 tTwo := by
            have z : Rdd K H18 v14 (mkL (srtP psAB) (mkU "a")) := r14
            rw [ab_srt] at z
            exact z
          have s1418 := ((s15.trans s16).trans s17).trans s18
          refine rNe_term (d := tTwo) (n := 2) (Rdd.ex (.same s1418) _ r10) r14' two_op (by decide) ⟨_, rfl, iteF ?_⟩
          have s1318 := s14.trans s1418
          have hD18 := s1318 _ _ hD13
          have ra18 := RddAll.ex (.same s1318) _ ra13
          refine ⟨.ref D0, rfl, (by show 1 ≤ sizeLine; decide), fun p1 n1 => ?_⟩
          have t1 := Same.new (o := .lst [V.bl false]) n1
          have e1 : (upd H18 p1 (.lst [V.bl false])) p1 = some (.lst [V.bl false]) := upd_same
          generalize upd H18 p1 (.lst [V.bl false]) = G1 at t1 e1 ⊢
          refine ⟨p1, 7, _, rfl, rfl, e1, by decide, by decide, (by show 1 * 7 ≤ sizeLine; decide), fun p2 n2 => ?_⟩
          have t2 := Same.new (o := .lst (List.replicate (7 : Int).toNat [V.bl false]).flatten) n2
          have e2 : (upd G1 p2 (.lst (List.replicate (7 : Int).toNat [V.bl false]).flatten)) p2 = some (.lst [V.bl false, .bl false, .bl false, .bl false, .bl false, .bl false, .bl false]) := upd_same
          generalize upd G1 p2 (.lst (List.replicate (7 : Int).toNat [V.bl false]).flatten) = G2 at t2 e2 ⊢
          refine ⟨(by show 3 ≤ sizeLine; decide), fun p3 n3 => ?_⟩
          have t3 := Same.new (o := .lst [V.bl true, .bl true, .bl false]) n3
          have e3 : (upd G2 p3 (.lst [V.bl true, .bl true, .bl false])) p3 = some (.lst [V.bl true, .bl true, .bl false]) := upd_same
          generalize upd G2 p3 (.lst [V.bl true, .bl true, .bl false]) = G3 at t3 e3 ⊢
          refine ⟨p2, p3, _, _, rfl, rfl, t3 _ _ e2, e3, (by show 7 + 3 ≤ sizeLine; decide), fun p4 n4 => ?_⟩
          have t4 := Same.new (o := .lst ([V.bl false, .bl false, .bl false, .bl false, .bl false, .bl false, .bl false] ++ [V.bl true, .bl true, .bl false])) n4
          have e4 : (upd G3 p4 (.lst ([V.bl false, .bl false, .bl false, .bl false, .bl false, .bl false, .bl false] ++ [V.bl true, .bl true, .bl false]))) p4 = some (.lst ([V.bl false, .bl false, .bl false, .bl false, .bl false, .bl false, .bl false] ++ [V.bl true, .bl true, .bl false])) := upd_same
          generalize upd G3 p4 (.lst ([V.bl false, .bl false, .bl false, .bl false, .bl false, .bl false, .bl false] ++ [V.bl true, .bl true, .bl false])) = G4 at t4 e4 ⊢
          have t04 := ((t1.trans t2).trans t3).trans t4
          have ra4 := RddAll.ex (.same t04) _ ra18
          have rb4 : RddAll K G4 ([V.bl false, .bl false, .bl false, .bl false, .bl false, .bl false, .bl false] ++ [V.bl true, .bl true, .bl false]) toldD := .cons (.bl _) (.cons (.bl _) (.cons (.bl _) (.cons (.bl _) (.cons (.bl _) (.cons (.bl _) (.cons (.bl _) (.cons (.bl _) (.cons (.bl _) (.cons (.bl _) .nil)))))))))
          refine rEq_lst (t04 _ _ hD18) e4 ra4 rb4 (by decide +kernel) (by decide +kernel) ?_
          refine ⟨true, rfl, iteT ?_⟩
          refine ⟨(by show 0 ≤ sizeLine; decide), fun p5 n5 => ⟨"k", .ref p5, [], rfl, .tup (SqT.of upd_same) .nil (by decide), nk, okd_cnt k_op (by decide), fun v15 G6 _ r15 => ?_⟩⟩
          refine (gv_tup (K := K) (G := G6) (gva_cons (gv_str "word") (gva_cons (gv_str "k") (gva_cons (gv_tup gva_nil (Nat.zero_le _)) gva_nil))) (Nat.le_of_ble_eq_true rfl)) G6 _ (Same.refl _) fun v16 G7 s7' r16 => ?_
          exact rEq_term (d := mkW "k" []) (n := 1) (Rdd.ex (.same s7') _ r15) r16 k_op (by decide) (q _)
end
end Sl

set_option Elab.async false
set_option linter.all false
set_option maxRecDepth 100000
set_option maxHeartbeats 2000000
namespace Sl
open PySem PySem.Spec PyProof.Rows L2
theorem all_mk {P : Program} {w : World} {K : PySem.W.Frag} {h : Heap} {mg : Str → Option Value} {fa : Addr} (X : K.In h) (G : h.Ns mainGlobals mg) (hfa : mg "law" = some (.ref fa))
    {fI : Addr} {odI anI : Option Addr} {slI : Array (Option Value)} {ocI kVI dcI pmI cdI ctI : Value}
    {fN : Addr} {odN anN : Option Addr} {slN : Array (Option Value)} {ocN kVN dcN pmN cdN ctN : Value}
    {fD : Addr} {odD anD : Option Addr} {slD : Array (Option Value)} {ocD kVD dcD pmD cdD ctD : Value}
    {fB : Addr} {odB anB : Option Addr} {slB : Array (Option Value)} {ocB kVB dcB pmB cdB ctB : Value}
    {fO : Addr} {odO anO : Option Addr} {slO : Array (Option Value)} {ocO kVO dcO pmO cdO ctO : Value}
    {fCP : Addr} {odCP anCP : Option Addr} {slCP : Array (Option Value)} {ocCP kVCP dcCP pmCP cdCP ctCP : Value}
    {fCN : Addr} {odCN anCN : Option Addr} {slCN : Array (Option Value)} {ocCN kVCN dcCN pmCN cdCN ctCN : Value}
    {fU : Addr} {odU anU : Option Addr} {slU : Array (Option Value)} {ocU kVU dcU pmU cdU ctU : Value}
    {fWd : Addr} {odWd anWd : Option Addr} {slWd : Array (Option Value)} {ocWd kVWd dcWd pmWd cdWd ctWd : Value}
    {fWO : Addr} {odWO anWO : Option Addr} {slWO : Array (Option Value)} {ocWO kVWO dcWO pmWO cdWO ctWO : Value}
    {fF : Addr} {odF anF : Option Addr} {slF : Array (Option Value)} {ocF kVF dcF pmF cdF ctF : Value}
    {fLt : Addr} {odLt anLt : Option Addr} {slLt : Array (Option Value)} {ocLt kVLt dcLt pmLt cdLt ctLt : Value}
    {fLO : Addr} {odLO anLO : Option Addr} {slLO : Array (Option Value)} {ocLO kVLO dcLO pmLO cdLO ctLO : Value}
    {fSt : Addr} {odSt anSt : Option Addr} {slSt : Array (Option Value)} {ocSt kVSt dcSt pmSt cdSt ctSt : Value}
    {fDr : Addr} {odDr anDr : Option Addr} {slDr : Array (Option Value)} {ocDr kVDr dcDr pmDr cdDr ctDr : Value}
    {fPk : Addr} {odPk anPk : Option Addr} {slPk : Array (Option Value)} {ocPk kVPk dcPk pmPk cdPk ctPk : Value}
    {fMx : Addr} {odMx anMx : Option Addr} {slMx : Array (Option Value)} {ocMx kVMx dcMx pmMx cdMx ctMx : Value}
    {fIn : Addr} {odIn anIn : Option Addr} {slIn : Array (Option Value)} {ocIn kVIn dcIn pmIn cdIn ctIn : Value}
    {fWi : Addr} {odWi anWi : Option Addr} {slWi : Array (Option Value)} {ocWi kVWi dcWi pmWi cdWi ctWi : Value}
    {fDn : Addr} {odDn anDn : Option Addr} {slDn : Array (Option Value)} {ocDn kVDn dcDn pmDn cdDn ctDn : Value}
    {fBk : Addr} {odBk anBk : Option Addr} {slBk : Array (Option Value)} {ocBk kVBk dcBk pmBk cdBk ctBk : Value}
    {fHd : Addr} {odHd anHd : Option Addr} {slHd : Array (Option Value)} {ocHd kVHd dcHd pmHd cdHd ctHd : Value}
    {fPa : Addr} {odPa anPa : Option Addr} {slPa : Array (Option Value)} {ocPa kVPa dcPa pmPa cdPa ctPa : Value}
    {fPu : Addr} {odPu anPu : Option Addr} {slPu : Array (Option Value)} {ocPu kVPu dcPu pmPu cdPu ctPu : Value}
    {fPs : Addr} {odPs anPs : Option Addr} {slPs : Array (Option Value)} {ocPs kVPs dcPs pmPs cdPs ctPs : Value}
    {fSo : Addr} {odSo anSo : Option Addr} {slSo : Array (Option Value)} {ocSo kVSo dcSo pmSo cdSo ctSo : Value}
    {fLW : Addr} {odLW anLW : Option Addr} {slLW : Array (Option Value)} {ocLW kVLW dcLW pmLW cdLW ctLW : Value}
    {fMd : Addr} {odMd anMd : Option Addr} {slMd : Array (Option Value)} {ocMd kVMd dcMd pmMd cdMd ctMd : Value}
    {fWr : Addr} {odWr anWr : Option Addr} {slWr : Array (Option Value)} {ocWr kVWr dcWr pmWr cdWr ctWr : Value}
    {fNm : Addr} {odNm anNm : Option Addr} {slNm : Array (Option Value)} {ocNm kVNm dcNm pmNm cdNm ctNm : Value}
    {fSg : Addr} {odSg anSg : Option Addr} {slSg : Array (Option Value)} {ocSg kVSg dcSg pmSg cdSg ctSg : Value}
    {fSm : Addr} {odSm anSm : Option Addr} {slSm : Array (Option Value)} {ocSm kVSm dcSm pmSm cdSm ctSm : Value}
    {fRi : Addr} {odRi anRi : Option Addr} {slRi : Array (Option Value)} {ocRi kVRi dcRi pmRi cdRi ctRi : Value}
    {fLa : Addr} {odLa anLa : Option Addr} {slLa : Array (Option Value)} {ocLa kVLa dcLa pmLa cdLa ctLa : Value}
    {vP vV vE vT vX : Int} {tP tV tE tT tX t1 t2 t3 : Tok} {aS : Addr} {ddS : Option Addr} {slS : Array (Option Value)} {nS : Nat}
    (nP : PySem.W.nsIn K mainGlobals "MAX_PARTS" = some (some (.int vP tP)))
    (eP : vP = 500)
    (nV : PySem.W.nsIn K mainGlobals "MAX_LEVELS" = some (some (.int vV tV)))
    (eV : vV = 120)
    (nE : PySem.W.nsIn K mainGlobals "MAX_LETTERS" = some (some (.int vE tE)))
    (eE : vE = 8)
    (nT : PySem.W.nsIn K mainGlobals "MAX_TERMS" = some (some (.int vT tT)))
    (eT : vT = 3)
    (nX : PySem.W.nsIn K mainGlobals "MAX_DEFINITIONS" = some (some (.int vX tX)))
    (eX : vX = 100)
    (aSW : PySem.W.nsIn K mainGlobals "SIGN_WORDS" = some (some (.ref aS)))
    (lSW : K.lookup aS = some ⟨.type "tuple", ddS, .seq #[.str "fun" t1, .str "let" t2, .str "in" t3] nS, slS⟩)
    (aI_ : PySem.W.nsIn K mainGlobals "terms_in" = some (some (.ref fI)))
    (lI_ : K.lookup fI = some ⟨ocI, odI, .func (PySem.W.fnOf "terms_in" "terms_in" (defArgs sInn) (defBody sInn) (defScope sInn) .none kVI dcI pmI anI cdI ctI), slI⟩)
    (cI_ : PySem.W.codeIn K cdI "terms_in" = true)
    (kI_ : PySem.W.keepIn K (.ref fI) = true)
    (aN_ : PySem.W.nsIn K mainGlobals "is_name" = some (some (.ref fN)))
    (lN_ : K.lookup fN = some ⟨ocN, odN, .func (PySem.W.fnOf "is_name" "is_name" (defArgs sName) (defBody sName) (defScope sName) .none kVN dcN pmN anN cdN ctN), slN⟩)
    (cN_ : PySem.W.codeIn K cdN "is_name" = true)
    (kN_ : PySem.W.keepIn K (.ref fN) = true)
    (aD_ : PySem.W.nsIn K mainGlobals "_are_definitions" = some (some (.ref fD)))
    (lD_ : K.lookup fD = some ⟨ocD, odD, .func (PySem.W.fnOf "_are_definitions" "_are_definitions" (defArgs sDefs) (defBody sDefs) (defScope sDefs) .none kVD dcD pmD anD cdD ctD), slD⟩)
    (cD_ : PySem.W.codeIn K cdD "_are_definitions" = true)
    (kD_ : PySem.W.keepIn K (.ref fD) = true)
    (aB_ : PySem.W.nsIn K mainGlobals "_is_built" = some (some (.ref fB)))
    (lB_ : K.lookup fB = some ⟨ocB, odB, .func (PySem.W.fnOf "_is_built" "_is_built" (defArgs sBuilt) (defBody sBuilt) (defScope sBuilt) .none kVB dcB pmB anB cdB ctB), slB⟩)
    (cB_ : PySem.W.codeIn K cdB "_is_built" = true)
    (kB_ : PySem.W.keepIn K (.ref fB) = true)
    (aO_ : PySem.W.nsIn K mainGlobals "is_open_term" = some (some (.ref fO)))
    (lO_ : K.lookup fO = some ⟨ocO, odO, .func (PySem.W.fnOf "is_open_term" "is_open_term" (defArgs sOpen) (defBody sOpen) (defScope sOpen) .none kVO dcO pmO anO cdO ctO), slO⟩)
    (cO_ : PySem.W.codeIn K cdO "is_open_term" = true)
    (kO_ : PySem.W.keepIn K (.ref fO) = true)
    (aCP_ : PySem.W.nsIn K mainGlobals "check_part" = some (some (.ref fCP)))
    (lCP_ : K.lookup fCP = some ⟨ocCP, odCP, .func (PySem.W.fnOf "check_part" "check_part" (defArgs sCkP) (defBody sCkP) (defScope sCkP) .none kVCP dcCP pmCP anCP cdCP ctCP), slCP⟩)
    (cCP_ : PySem.W.codeIn K cdCP "check_part" = true)
    (kCP_ : PySem.W.keepIn K (.ref fCP) = true)
    (aCN_ : PySem.W.nsIn K mainGlobals "check_name" = some (some (.ref fCN)))
    (lCN_ : K.lookup fCN = some ⟨ocCN, odCN, .func (PySem.W.fnOf "check_name" "check_name" (defArgs sCkN) (defBody sCkN) (defScope sCkN) .none kVCN dcCN pmCN anCN cdCN ctCN), slCN⟩)
    (cCN_ : PySem.W.codeIn K cdCN "check_name" = true)
    (kCN_ : PySem.W.keepIn K (.ref fCN) = true)
    (aU_ : PySem.W.nsIn K mainGlobals "use" = some (some (.ref fU)))
    (lU_ : K.lookup fU = some ⟨ocU, odU, .func (PySem.W.fnOf "use" "use" (defArgs sUse) (defBody sUse) (defScope sUse) .none kVU dcU pmU anU cdU ctU), slU⟩)
    (cU_ : PySem.W.codeIn K cdU "use" = true)
    (kU_ : PySem.W.keepIn K (.ref fU) = true)
    (aWd_ : PySem.W.nsIn K mainGlobals "word" = some (some (.ref fWd)))
    (lWd_ : K.lookup fWd = some ⟨ocWd, odWd, .func (PySem.W.fnOf "word" "word" (defArgs sWord) (defBody sWord) (defScope sWord) .none kVWd dcWd pmWd anWd cdWd ctWd), slWd⟩)
    (cWd_ : PySem.W.codeIn K cdWd "word" = true)
    (kWd_ : PySem.W.keepIn K (.ref fWd) = true)
    (aWO_ : PySem.W.nsIn K mainGlobals "word_of" = some (some (.ref fWO)))
    (lWO_ : K.lookup fWO = some ⟨ocWO, odWO, .func (PySem.W.fnOf "word_of" "word_of" (defArgs sWordOf) (defBody sWordOf) (defScope sWordOf) .none kVWO dcWO pmWO anWO cdWO ctWO), slWO⟩)
    (cWO_ : PySem.W.codeIn K cdWO "word_of" = true)
    (kWO_ : PySem.W.keepIn K (.ref fWO) = true)
    (aF_ : PySem.W.nsIn K mainGlobals "fun" = some (some (.ref fF)))
    (lF_ : K.lookup fF = some ⟨ocF, odF, .func (PySem.W.fnOf "fun" "fun" (defArgs sFun) (defBody sFun) (defScope sFun) .none kVF dcF pmF anF cdF ctF), slF⟩)
    (cF_ : PySem.W.codeIn K cdF "fun" = true)
    (kF_ : PySem.W.keepIn K (.ref fF) = true)
    (aLt_ : PySem.W.nsIn K mainGlobals "let" = some (some (.ref fLt)))
    (lLt_ : K.lookup fLt = some ⟨ocLt, odLt, .func (PySem.W.fnOf "let" "let" (defArgs sLet) (defBody sLet) (defScope sLet) .none kVLt dcLt pmLt anLt cdLt ctLt), slLt⟩)
    (cLt_ : PySem.W.codeIn K cdLt "let" = true)
    (kLt_ : PySem.W.keepIn K (.ref fLt) = true)
    (aLO_ : PySem.W.nsIn K mainGlobals "let_of" = some (some (.ref fLO)))
    (lLO_ : K.lookup fLO = some ⟨ocLO, odLO, .func (PySem.W.fnOf "let_of" "let_of" (defArgs sLetOf) (defBody sLetOf) (defScope sLetOf) .none kVLO dcLO pmLO anLO cdLO ctLO), slLO⟩)
    (cLO_ : PySem.W.codeIn K cdLO "let_of" = true)
    (kLO_ : PySem.W.keepIn K (.ref fLO) = true)
    (aSt_ : PySem.W.nsIn K mainGlobals "_law_stream" = some (some (.ref fSt)))
    (lSt_ : K.lookup fSt = some ⟨ocSt, odSt, .func (PySem.W.fnOf "_law_stream" "_law_stream" (defArgs sStream) (defBody sStream) (defScope sStream) .none kVSt dcSt pmSt anSt cdSt ctSt), slSt⟩)
    (cSt_ : PySem.W.codeIn K cdSt "_law_stream" = true)
    (kSt_ : PySem.W.keepIn K (.ref fSt) = true)
    (aDr_ : PySem.W.nsIn K mainGlobals "_law_draw" = some (some (.ref fDr)))
    (lDr_ : K.lookup fDr = some ⟨ocDr, odDr, .func (PySem.W.fnOf "_law_draw" "_law_draw" (defArgs sDraw) (defBody sDraw) (defScope sDraw) .none kVDr dcDr pmDr anDr cdDr ctDr), slDr⟩)
    (cDr_ : PySem.W.codeIn K cdDr "_law_draw" = true)
    (kDr_ : PySem.W.keepIn K (.ref fDr) = true)
    (aPk_ : PySem.W.nsIn K mainGlobals "_law_pick" = some (some (.ref fPk)))
    (lPk_ : K.lookup fPk = some ⟨ocPk, odPk, .func (PySem.W.fnOf "_law_pick" "_law_pick" (defArgs sPick) (defBody sPick) (defScope sPick) .none kVPk dcPk pmPk anPk cdPk ctPk), slPk⟩)
    (cPk_ : PySem.W.codeIn K cdPk "_law_pick" = true)
    (kPk_ : PySem.W.keepIn K (.ref fPk) = true)
    (aMx_ : PySem.W.nsIn K mainGlobals "_law_mixed" = some (some (.ref fMx)))
    (lMx_ : K.lookup fMx = some ⟨ocMx, odMx, .func (PySem.W.fnOf "_law_mixed" "_law_mixed" (defArgs sMixed) (defBody sMixed) (defScope sMixed) .none kVMx dcMx pmMx anMx cdMx ctMx), slMx⟩)
    (cMx_ : PySem.W.codeIn K cdMx "_law_mixed" = true)
    (kMx_ : PySem.W.keepIn K (.ref fMx) = true)
    (aIn_ : PySem.W.nsIn K mainGlobals "_law_inner" = some (some (.ref fIn)))
    (lIn_ : K.lookup fIn = some ⟨ocIn, odIn, .func (PySem.W.fnOf "_law_inner" "_law_inner" (defArgs sInner) (defBody sInner) (defScope sInner) .none kVIn dcIn pmIn anIn cdIn ctIn), slIn⟩)
    (cIn_ : PySem.W.codeIn K cdIn "_law_inner" = true)
    (kIn_ : PySem.W.keepIn K (.ref fIn) = true)
    (aWi_ : PySem.W.nsIn K mainGlobals "_law_with_inner" = some (some (.ref fWi)))
    (lWi_ : K.lookup fWi = some ⟨ocWi, odWi, .func (PySem.W.fnOf "_law_with_inner" "_law_with_inner" (defArgs sWith) (defBody sWith) (defScope sWith) .none kVWi dcWi pmWi anWi cdWi ctWi), slWi⟩)
    (cWi_ : PySem.W.codeIn K cdWi "_law_with_inner" = true)
    (kWi_ : PySem.W.keepIn K (.ref fWi) = true)
    (aDn_ : PySem.W.nsIn K mainGlobals "_law_drawn" = some (some (.ref fDn)))
    (lDn_ : K.lookup fDn = some ⟨ocDn, odDn, .func (PySem.W.fnOf "_law_drawn" "_law_drawn" (defArgs sDrawn) (defBody sDrawn) (defScope sDrawn) .none kVDn dcDn pmDn anDn cdDn ctDn), slDn⟩)
    (cDn_ : PySem.W.codeIn K cdDn "_law_drawn" = true)
    (kDn_ : PySem.W.keepIn K (.ref fDn) = true)
    (aBk_ : PySem.W.nsIn K mainGlobals "_law_block" = some (some (.ref fBk)))
    (lBk_ : K.lookup fBk = some ⟨ocBk, odBk, .func (PySem.W.fnOf "_law_block" "_law_block" (defArgs sBlock) (defBody sBlock) (defScope sBlock) .none kVBk dcBk pmBk anBk cdBk ctBk), slBk⟩)
    (cBk_ : PySem.W.codeIn K cdBk "_law_block" = true)
    (kBk_ : PySem.W.keepIn K (.ref fBk) = true)
    (aHd_ : PySem.W.nsIn K mainGlobals "_law_headed" = some (some (.ref fHd)))
    (lHd_ : K.lookup fHd = some ⟨ocHd, odHd, .func (PySem.W.fnOf "_law_headed" "_law_headed" (defArgs sHeaded) (defBody sHeaded) (defScope sHeaded) .none kVHd dcHd pmHd anHd cdHd ctHd), slHd⟩)
    (cHd_ : PySem.W.codeIn K cdHd "_law_headed" = true)
    (kHd_ : PySem.W.keepIn K (.ref fHd) = true)
    (aPa_ : PySem.W.nsIn K mainGlobals "_law_part" = some (some (.ref fPa)))
    (lPa_ : K.lookup fPa = some ⟨ocPa, odPa, .func (PySem.W.fnOf "_law_part" "_law_part" (defArgs sPart) (defBody sPart) (defScope sPart) .none kVPa dcPa pmPa anPa cdPa ctPa), slPa⟩)
    (cPa_ : PySem.W.codeIn K cdPa "_law_part" = true)
    (kPa_ : PySem.W.keepIn K (.ref fPa) = true)
    (aPu_ : PySem.W.nsIn K mainGlobals "_law_put" = some (some (.ref fPu)))
    (lPu_ : K.lookup fPu = some ⟨ocPu, odPu, .func (PySem.W.fnOf "_law_put" "_law_put" (defArgs sPut) (defBody sPut) (defScope sPut) .none kVPu dcPu pmPu anPu cdPu ctPu), slPu⟩)
    (cPu_ : PySem.W.codeIn K cdPu "_law_put" = true)
    (kPu_ : PySem.W.keepIn K (.ref fPu) = true)
    (aPs_ : PySem.W.nsIn K mainGlobals "_law_paths" = some (some (.ref fPs)))
    (lPs_ : K.lookup fPs = some ⟨ocPs, odPs, .func (PySem.W.fnOf "_law_paths" "_law_paths" (defArgs sPaths) (defBody sPaths) (defScope sPaths) .none kVPs dcPs pmPs anPs cdPs ctPs), slPs⟩)
    (cPs_ : PySem.W.codeIn K cdPs "_law_paths" = true)
    (kPs_ : PySem.W.keepIn K (.ref fPs) = true)
    (aSo_ : PySem.W.nsIn K mainGlobals "_law_sorted" = some (some (.ref fSo)))
    (lSo_ : K.lookup fSo = some ⟨ocSo, odSo, .func (PySem.W.fnOf "_law_sorted" "_law_sorted" (defArgs sSorted) (defBody sSorted) (defScope sSorted) .none kVSo dcSo pmSo anSo cdSo ctSo), slSo⟩)
    (cSo_ : PySem.W.codeIn K cdSo "_law_sorted" = true)
    (kSo_ : PySem.W.keepIn K (.ref fSo) = true)
    (aLW_ : PySem.W.nsIn K mainGlobals "_law_word" = some (some (.ref fLW)))
    (lLW_ : K.lookup fLW = some ⟨ocLW, odLW, .func (PySem.W.fnOf "_law_word" "_law_word" (defArgs sLWord) (defBody sLWord) (defScope sLWord) .none kVLW dcLW pmLW anLW cdLW ctLW), slLW⟩)
    (cLW_ : PySem.W.codeIn K cdLW "_law_word" = true)
    (kLW_ : PySem.W.keepIn K (.ref fLW) = true)
    (aMd_ : PySem.W.nsIn K mainGlobals "_law_made" = some (some (.ref fMd)))
    (lMd_ : K.lookup fMd = some ⟨ocMd, odMd, .func (PySem.W.fnOf "_law_made" "_law_made" (defArgs sMade) (defBody sMade) (defScope sMade) .none kVMd dcMd pmMd anMd cdMd ctMd), slMd⟩)
    (cMd_ : PySem.W.codeIn K cdMd "_law_made" = true)
    (kMd_ : PySem.W.keepIn K (.ref fMd) = true)
    (aWr_ : PySem.W.nsIn K mainGlobals "_law_wrong" = some (some (.ref fWr)))
    (lWr_ : K.lookup fWr = some ⟨ocWr, odWr, .func (PySem.W.fnOf "_law_wrong" "_law_wrong" (defArgs sWrong) (defBody sWrong) (defScope sWrong) .none kVWr dcWr pmWr anWr cdWr ctWr), slWr⟩)
    (cWr_ : PySem.W.codeIn K cdWr "_law_wrong" = true)
    (kWr_ : PySem.W.keepIn K (.ref fWr) = true)
    (aNm_ : PySem.W.nsIn K mainGlobals "_law_is_name" = some (some (.ref fNm)))
    (lNm_ : K.lookup fNm = some ⟨ocNm, odNm, .func (PySem.W.fnOf "_law_is_name" "_law_is_name" (defArgs sIsName) (defBody sIsName) (defScope sIsName) .none kVNm dcNm pmNm anNm cdNm ctNm), slNm⟩)
    (cNm_ : PySem.W.codeIn K cdNm "_law_is_name" = true)
    (kNm_ : PySem.W.keepIn K (.ref fNm) = true)
    (aSg_ : PySem.W.nsIn K mainGlobals "_law_sign" = some (some (.ref fSg)))
    (lSg_ : K.lookup fSg = some ⟨ocSg, odSg, .func (PySem.W.fnOf "_law_sign" "_law_sign" (defArgs sSign) (defBody sSign) (defScope sSign) .none kVSg dcSg pmSg anSg cdSg ctSg), slSg⟩)
    (cSg_ : PySem.W.codeIn K cdSg "_law_sign" = true)
    (kSg_ : PySem.W.keepIn K (.ref fSg) = true)
    (aSm_ : PySem.W.nsIn K mainGlobals "_law_some" = some (some (.ref fSm)))
    (lSm_ : K.lookup fSm = some ⟨ocSm, odSm, .func (PySem.W.fnOf "_law_some" "_law_some" (defArgs sSome) (defBody sSome) (defScope sSome) .none kVSm dcSm pmSm anSm cdSm ctSm), slSm⟩)
    (cSm_ : PySem.W.codeIn K cdSm "_law_some" = true)
    (kSm_ : PySem.W.keepIn K (.ref fSm) = true)
    (aRi_ : PySem.W.nsIn K mainGlobals "_law_right" = some (some (.ref fRi)))
    (lRi_ : K.lookup fRi = some ⟨ocRi, odRi, .func (PySem.W.fnOf "_law_right" "_law_right" (defArgs sRight) (defBody sRight) (defScope sRight) .none kVRi dcRi pmRi anRi cdRi ctRi), slRi⟩)
    (cRi_ : PySem.W.codeIn K cdRi "_law_right" = true)
    (kRi_ : PySem.W.keepIn K (.ref fRi) = true)
    (aLa_ : PySem.W.nsIn K mainGlobals "law" = some (some (.ref fLa)))
    (lLa_ : K.lookup fLa = some ⟨ocLa, odLa, .func (PySem.W.fnOf "law" "law" (defArgs sLaw) (defBody sLaw) (defScope sLaw) .none kVLa dcLa pmLa anLa cdLa ctLa), slLa⟩)
    (cLa_ : PySem.W.codeIn K cdLa "law" = true)
    (kLa_ : PySem.W.keepIn K (.ref fLa) = true)
    (z0 : PySem.W.nsIn K mainGlobals "isinstance" = some none)
    (z1 : PySem.W.nsIn K mainGlobals "str" = some none)
    (z2 : PySem.W.nsIn K mainGlobals "tuple" = some none)
    (z3 : PySem.W.nsIn K mainGlobals "dict" = some none)
    (z4 : PySem.W.nsIn K mainGlobals "len" = some none)
    (z5 : PySem.W.nsIn K mainGlobals "all" = some none)
    (z6 : PySem.W.nsIn K mainGlobals "set" = some none)
    (z7 : PySem.W.nsIn K mainGlobals "range" = some none)
    (z8 : PySem.W.nsIn K mainGlobals "sorted" = some none)
    (z9 : PySem.W.nsIn K mainGlobals "list" = some none)
    (z10 : PySem.W.nsIn K mainGlobals "int" = some none)
    (z11 : PySem.W.nsIn K mainGlobals "abs" = some none)
    (z12 : PySem.W.nsIn K mainGlobals "max" = some none)
    (z13 : PySem.W.nsIn K mainGlobals "min" = some none)
    (z14 : PySem.W.nsIn K mainGlobals "repr" = some none)
    (z15 : PySem.W.nsIn K mainGlobals "zip" = some none)
    (z16 : PySem.W.nsIn K mainGlobals "enumerate" = some none) :
    ∃ fd : FuncData, (∀ (s : Shared) (v : Value), BindsTo s fd ⟨[v], []⟩ [("_law_script", v)]) ∧ ∀ base : Heap, K.In base → base.Ns mainGlobals mg → FnG P w K mg base (L2.CX P w) 20 fa fd ["_law_script"] (spLaw K) := by
  have e := hfa.symm.trans (PySem.W.mg_of X G aLa_)
  cases e
  subst eP eV eE eT eX
  have FI := fun_mk (st := sInn) lI_ cI_ kI_
  have bI := FI.binds (ps := ["part"]) fun _ _ _ _ _ _ us hl => match us, hl with | [_], _ => rfl
  have gI := PySem.W.mg_of X G aI_
  have FN := fun_mk (st := sName) lN_ cN_ kN_
  have bN := FN.binds (ps := ["value"]) fun _ _ _ _ _ _ us hl => match us, hl with | [_], _ => rfl
  have gN := PySem.W.mg_of X G aN_
  have FD := fun_mk (st := sDefs) lD_ cD_ kD_
  have bD := FD.binds (ps := ["value"]) fun _ _ _ _ _ _ us hl => match us, hl with | [_], _ => rfl
  have gD := PySem.W.mg_of X G aD_
  have FB := fun_mk (st := sBuilt) lB_ cB_ kB_
  have bB := FB.binds (ps := ["value"]) fun _ _ _ _ _ _ us hl => match us, hl with | [_], _ => rfl
  have gB := PySem.W.mg_of X G aB_
  have FO := fun_mk (st := sOpen) lO_ cO_ kO_
  have bO := FO.binds (ps := ["value"]) fun _ _ _ _ _ _ us hl => match us, hl with | [_], _ => rfl
  have gO := PySem.W.mg_of X G aO_
  have FCP := fun_mk (st := sCkP) lCP_ cCP_ kCP_
  have bCP := FCP.binds (ps := ["part"]) fun _ _ _ _ _ _ us hl => match us, hl with | [_], _ => rfl
  have gCP := PySem.W.mg_of X G aCP_
  have FCN := fun_mk (st := sCkN) lCN_ cCN_ kCN_
  have bCN := FCN.binds (ps := ["name"]) fun _ _ _ _ _ _ us hl => match us, hl with | [_], _ => rfl
  have gCN := PySem.W.mg_of X G aCN_
  have FU := fun_mk (st := sUse) lU_ cU_ kU_
  have bU := FU.binds (ps := ["name"]) fun _ _ _ _ _ _ us hl => match us, hl with | [_], _ => rfl
  have gU := PySem.W.mg_of X G aU_
  have FWd := fun_mk (st := sWord) lWd_ cWd_ kWd_
  have gWd := PySem.W.mg_of X G aWd_
  have FWO := fun_mk (st := sWordOf) lWO_ cWO_ kWO_
  have bWO := FWO.binds (ps := ["name", "terms"]) fun _ _ _ _ _ _ us hl => match us, hl with | [_, _], _ => rfl
  have gWO := PySem.W.mg_of X G aWO_
  have FF := fun_mk (st := sFun) lF_ cF_ kF_
  have bF := FF.binds (ps := ["variable", "term"]) fun _ _ _ _ _ _ us hl => match us, hl with | [_, _], _ => rfl
  have gF := PySem.W.mg_of X G aF_
  have FLt := fun_mk (st := sLet) lLt_ cLt_ kLt_
  have gLt := PySem.W.mg_of X G aLt_
  have FLO := fun_mk (st := sLetOf) lLO_ cLO_ kLO_
  have bLO := FLO.binds (ps := ["term", "definitions"]) fun _ _ _ _ _ _ us hl => match us, hl with | [_, _], _ => rfl
  have gLO := PySem.W.mg_of X G aLO_
  have FSt := fun_mk (st := sStream) lSt_ cSt_ kSt_
  have bSt := FSt.binds (ps := ["_law_script", "_law_at"]) fun _ _ _ _ _ _ us hl => match us, hl with | [_, _], _ => rfl
  have gSt := PySem.W.mg_of X G aSt_
  have FDr := fun_mk (st := sDraw) lDr_ cDr_ kDr_
  have bDr := FDr.binds (ps := ["_law_stream_here", "_law_high"]) fun _ _ _ _ _ _ us hl => match us, hl with | [_, _], _ => rfl
  have gDr := PySem.W.mg_of X G aDr_
  have FPk := fun_mk (st := sPick) lPk_ cPk_ kPk_
  have bPk := FPk.binds (ps := ["_law_stream_here", "_law_items"]) fun _ _ _ _ _ _ us hl => match us, hl with | [_, _], _ => rfl
  have gPk := PySem.W.mg_of X G aPk_
  have FMx := fun_mk (st := sMixed) lMx_ cMx_ kMx_
  have bMx := FMx.binds (ps := ["_law_stream_here", "_law_items"]) fun _ _ _ _ _ _ us hl => match us, hl with | [_, _], _ => rfl
  have gMx := PySem.W.mg_of X G aMx_
  have FIn := fun_mk (st := sInner) lIn_ cIn_ kIn_
  have bIn := FIn.binds (ps := ["_law_part_here"]) fun _ _ _ _ _ _ us hl => match us, hl with | [_], _ => rfl
  have gIn := PySem.W.mg_of X G aIn_
  have FWi := fun_mk (st := sWith) lWi_ cWi_ kWi_
  have bWi := FWi.binds (ps := ["_law_part_here", "_law_some_here"]) fun _ _ _ _ _ _ us hl => match us, hl with | [_, _], _ => rfl
  have gWi := PySem.W.mg_of X G aWi_
  have FDn := fun_mk (st := sDrawn) lDn_ cDn_ kDn_
  have bDn := FDn.binds (ps := ["_law_stream_here", "_law_deep", "_law_seen"]) fun _ _ _ _ _ _ us hl => match us, hl with | [_, _, _], _ => rfl
  have gDn := PySem.W.mg_of X G aDn_
  have FBk := fun_mk (st := sBlock) lBk_ cBk_ kBk_
  have bBk := FBk.binds (ps := ["_law_stream_here", "_law_deep", "_law_seen"]) fun _ _ _ _ _ _ us hl => match us, hl with | [_, _, _], _ => rfl
  have gBk := PySem.W.mg_of X G aBk_
  have FHd := fun_mk (st := sHeaded) lHd_ cHd_ kHd_
  have bHd := FHd.binds (ps := ["_law_stream_here", "_law_deep", "_law_seen", "_law_outside"]) fun _ _ _ _ _ _ us hl => match us, hl with | [_, _, _, _], _ => rfl
  have gHd := PySem.W.mg_of X G aHd_
  have FPa := fun_mk (st := sPart) lPa_ cPa_ kPa_
  have bPa := FPa.binds (ps := ["_law_root", "_law_path"]) fun _ _ _ _ _ _ us hl => match us, hl with | [_, _], _ => rfl
  have gPa := PySem.W.mg_of X G aPa_
  have FPu := fun_mk (st := sPut) lPu_ cPu_ kPu_
  have bPu := FPu.binds (ps := ["_law_root", "_law_path", "_law_part_here"]) fun _ _ _ _ _ _ us hl => match us, hl with | [_, _, _], _ => rfl
  have gPu := PySem.W.mg_of X G aPu_
  have FPs := fun_mk (st := sPaths) lPs_ cPs_ kPs_
  have bPs := FPs.binds (ps := ["_law_root"]) fun _ _ _ _ _ _ us hl => match us, hl with | [_], _ => rfl
  have gPs := PySem.W.mg_of X G aPs_
  have FSo := fun_mk (st := sSorted) lSo_ cSo_ kSo_
  have bSo := FSo.binds (ps := ["_law_part_here"]) fun _ _ _ _ _ _ us hl => match us, hl with | [_], _ => rfl
  have gSo := PySem.W.mg_of X G aSo_
  have FLW := fun_mk (st := sLWord) lLW_ cLW_ kLW_
  have bLW := FLW.binds (ps := ["_law_stream_here", "_law_sign_here", "_law_some_here"]) fun _ _ _ _ _ _ us hl => match us, hl with | [_, _, _], _ => rfl
  have gLW := PySem.W.mg_of X G aLW_
  have FMd := fun_mk (st := sMade) lMd_ cMd_ kMd_
  have bMd := FMd.binds (ps := ["_law_stream_here", "_law_part_here"]) fun _ _ _ _ _ _ us hl => match us, hl with | [_, _], _ => rfl
  have gMd := PySem.W.mg_of X G aMd_
  have FWr := fun_mk (st := sWrong) lWr_ cWr_ kWr_
  have bWr := FWr.binds (ps := ["_law_stream_here", "_law_part_here"]) fun _ _ _ _ _ _ us hl => match us, hl with | [_, _], _ => rfl
  have gWr := PySem.W.mg_of X G aWr_
  have FNm := fun_mk (st := sIsName) lNm_ cNm_ kNm_
  have bNm := FNm.binds (ps := ["_law_sign_here"]) fun _ _ _ _ _ _ us hl => match us, hl with | [_], _ => rfl
  have gNm := PySem.W.mg_of X G aNm_
  have FSg := fun_mk (st := sSign) lSg_ cSg_ kSg_
  have bSg := FSg.binds (ps := ["_law_stream_here"]) fun _ _ _ _ _ _ us hl => match us, hl with | [_], _ => rfl
  have gSg := PySem.W.mg_of X G aSg_
  have FSm := fun_mk (st := sSome) lSm_ cSm_ kSm_
  have bSm := FSm.binds (ps := ["_law_stream_here", "_law_seen"]) fun _ _ _ _ _ _ us hl => match us, hl with | [_, _], _ => rfl
  have gSm := PySem.W.mg_of X G aSm_
  have FRi := fun_mk (st := sRight) lRi_ cRi_ kRi_
  have bRi := FRi.binds (ps := ["_law_stream_here"]) fun _ _ _ _ _ _ us hl => match us, hl with | [_], _ => rfl
  have gRi := PySem.W.mg_of X G aRi_
  have FLa := fun_mk (st := sLaw) lLa_ cLa_ kLa_
  have B : Bt mg := { isi := PySem.W.mg_none_of X G z0, str := PySem.W.mg_none_of X G z1, tuple := PySem.W.mg_none_of X G z2, dict := PySem.W.mg_none_of X G z3, len := PySem.W.mg_none_of X G z4, all := PySem.W.mg_none_of X G z5, set := PySem.W.mg_none_of X G z6, range := PySem.W.mg_none_of X G z7, sorted := PySem.W.mg_none_of X G z8, list := PySem.W.mg_none_of X G z9, int := PySem.W.mg_none_of X G z10, abs := PySem.W.mg_none_of X G z11, max := PySem.W.mg_none_of X G z12, min := PySem.W.mg_none_of X G z13, repr := PySem.W.mg_none_of X G z14, zip := PySem.W.mg_none_of X G z15, enum := PySem.W.mg_none_of X G z16 }
  have U : Tops K mg := { parts := ⟨_, PySem.W.mg_of X G nP⟩, levels := ⟨_, PySem.W.mg_of X G nV⟩, letters := ⟨_, PySem.W.mg_of X G nE⟩, terms := ⟨_, PySem.W.mg_of X G nT⟩, defs := ⟨_, PySem.W.mg_of X G nX⟩, sw := ⟨aS, PySem.W.mg_of X G aSW, fun H => .inr ⟨_, _, _, lSW, rfl, rfl, (by show 3 ≤ sizeLine; decide), .cons ⟨_, rfl⟩ (.cons ⟨_, rfl⟩ (.cons ⟨_, rfl⟩ .nil))⟩⟩ }
  have T : Fns K mg fN fD fB fI _ _ _ _ := ⟨FN, bN, gN, FD, bD, gD, FB, bB, gB, FI, bI, gI⟩
  have M : Mks K mg fO fCP fCN fU fWO fF _ _ _ _ _ _ := ⟨FO, bO, gO, FCP, bCP, gCP, FCN, bCN, gCN, FU, bU, gU, FWO, bWO, gWO, FF, bF, gF⟩
  have V' : Lp K mg fIn fPa _ _ := ⟨FIn, bIn, gIn, FPa, bPa, gPa⟩
  have L : Lw K mg fSt fDr fPk fMx _ _ _ _ := ⟨FSt, bSt, gSt, FDr, bDr, gDr, FPk, bPk, gPk, FMx, bMx, gMx⟩
  have W : Lwd K mg fWd fLW _ _ := ⟨FWd, gWd, FLW, bLW, gLW⟩
  have Z : Llt K mg fLt fLO _ _ := ⟨FLt, gLt, FLO, bLO, gLO⟩
  have D1 : Lmd K mg fMd _ := ⟨FMd, bMd, gMd⟩
  have Yq : Lq K mg fWi fPu _ _ := ⟨FWi, bWi, gWi, FPu, bPu, gPu, B.zip⟩
  have S1 : Lso K mg fSo _ := ⟨FSo, bSo, gSo⟩
  have Yd : Ld K mg fDn fBk fHd _ _ _ := ⟨FDn, bDn, gDn, FBk, bBk, gBk, FHd, bHd, gHd⟩
  have C : Lps K mg fPs fWr _ _ := ⟨FPs, bPs, gPs, FWr, bWr, gWr⟩
  have S : Lsm K mg fSm _ := ⟨FSm, bSm, gSm⟩
  have R : Lri K mg fSg fNm fRi _ _ _ := ⟨FSg, bSg, gSg, FNm, bNm, gNm, FRi, bRi, gRi⟩
  exact ⟨_, fun s v => .of_eq rfl, fun base _ _ => ok_law FLa R S C Yd S1 Yq D1 Z W L V' M T U B⟩
end Sl

set_option Elab.async false
set_option linter.all false
set_option maxRecDepth 100000
open PySem PySem.W PyProof.Rows
set_option maxHeartbeats 0 in
theorem PySem.Challenge.cw_sharedlets_k01_terms_made_holds : PySem.Challenge.rw_sharedlets_k01_terms_made.Holds := by
  w_on; o_law; k_head; (case hw => w_witness2)
  k_fill
  refine Sl.walkG (l := PySem.Challenge.rw_sharedlets_k01_terms_made) (n := 63) (k := 20) (x := "_law_script") (sp := fun w => Sl.spLaw _) rfl (by decide) rfl ⟨rfl, by decide, by decide⟩ (fun w h Y => PySem.W.kIn_of Y) ?F (fun w G a ns hl _ hS => ⟨a, ns, rfl, hS, by omega, fun _ => rfl⟩)
  case F =>
    intro w mg fa h KX G hmg
    refine' Sl.all_mk KX G hmg ?nP ?eP ?nV ?eV ?nE ?eE ?nT ?eT ?nX ?eX ?aSW ?lSW ?aI_ ?lI_ ?cI_ ?kI_ ?aN_ ?lN_ ?cN_ ?kN_ ?aD_ ?lD_ ?cD_ ?kD_ ?aB_ ?lB_ ?cB_ ?kB_ ?aO_ ?lO_ ?cO_ ?kO_ ?aCP_ ?lCP_ ?cCP_ ?kCP_ ?aCN_ ?lCN_ ?cCN_ ?kCN_ ?aU_ ?lU_ ?cU_ ?kU_ ?aWd_ ?lWd_ ?cWd_ ?kWd_ ?aWO_ ?lWO_ ?cWO_ ?kWO_ ?aF_ ?lF_ ?cF_ ?kF_ ?aLt_ ?lLt_ ?cLt_ ?kLt_ ?aLO_ ?lLO_ ?cLO_ ?kLO_ ?aSt_ ?lSt_ ?cSt_ ?kSt_ ?aDr_ ?lDr_ ?cDr_ ?kDr_ ?aPk_ ?lPk_ ?cPk_ ?kPk_ ?aMx_ ?lMx_ ?cMx_ ?kMx_ ?aIn_ ?lIn_ ?cIn_ ?kIn_ ?aWi_ ?lWi_ ?cWi_ ?kWi_ ?aDn_ ?lDn_ ?cDn_ ?kDn_ ?aBk_ ?lBk_ ?cBk_ ?kBk_ ?aHd_ ?lHd_ ?cHd_ ?kHd_ ?aPa_ ?lPa_ ?cPa_ ?kPa_ ?aPu_ ?lPu_ ?cPu_ ?kPu_ ?aPs_ ?lPs_ ?cPs_ ?kPs_ ?aSo_ ?lSo_ ?cSo_ ?kSo_ ?aLW_ ?lLW_ ?cLW_ ?kLW_ ?aMd_ ?lMd_ ?cMd_ ?kMd_ ?aWr_ ?lWr_ ?cWr_ ?kWr_ ?aNm_ ?lNm_ ?cNm_ ?kNm_ ?aSg_ ?lSg_ ?cSg_ ?kSg_ ?aSm_ ?lSm_ ?cSm_ ?kSm_ ?aRi_ ?lRi_ ?cRi_ ?kRi_ ?aLa_ ?lLa_ ?cLa_ ?kLa_ ?z0 ?z1 ?z2 ?z3 ?z4 ?z5 ?z6 ?z7 ?z8 ?z9 ?z10 ?z11 ?z12 ?z13 ?z14 ?z15 ?z16
    (case nP => k_is)
    (case eP => rfl)
    (case nV => k_is)
    (case eV => rfl)
    (case nE => k_is)
    (case eE => rfl)
    (case nT => k_is)
    (case eT => rfl)
    (case nX => k_is)
    (case eX => rfl)
    (case aSW => k_is)
    (case lSW => k_is)
    (case aI_ => k_is)
    (case lI_ => k_is)
    (case cI_ => k_is)
    (case kI_ => k_is)
    (case aN_ => k_is)
    (case lN_ => k_is)
    (case cN_ => k_is)
    (case kN_ => k_is)
    (case aD_ => k_is)
    (case lD_ => k_is)
    (case cD_ => k_is)
    (case kD_ => k_is)
    (case aB_ => k_is)
    (case lB_ => k_is)
    (case cB_ => k_is)
    (case kB_ => k_is)
    (case aO_ => k_is)
    (case lO_ => k_is)
    (case cO_ => k_is)
    (case kO_ => k_is)
    (case aCP_ => k_is)
    (case lCP_ => k_is)
    (case cCP_ => k_is)
    (case kCP_ => k_is)
    (case aCN_ => k_is)
    (case lCN_ => k_is)
    (case cCN_ => k_is)
    (case kCN_ => k_is)
    (case aU_ => k_is)
    (case lU_ => k_is)
    (case cU_ => k_is)
    (case kU_ => k_is)
    (case aWd_ => k_is)
    (case lWd_ => k_is)
    (case cWd_ => k_is)
    (case kWd_ => k_is)
    (case aWO_ => k_is)
    (case lWO_ => k_is)
    (case cWO_ => k_is)
    (case kWO_ => k_is)
    (case aF_ => k_is)
    (case lF_ => k_is)
    (case cF_ => k_is)
    (case kF_ => k_is)
    (case aLt_ => k_is)
    (case lLt_ => k_is)
    (case cLt_ => k_is)
    (case kLt_ => k_is)
    (case aLO_ => k_is)
    (case lLO_ => k_is)
    (case cLO_ => k_is)
    (case kLO_ => k_is)
    (case aSt_ => k_is)
    (case lSt_ => k_is)
    (case cSt_ => k_is)
    (case kSt_ => k_is)
    (case aDr_ => k_is)
    (case lDr_ => k_is)
    (case cDr_ => k_is)
    (case kDr_ => k_is)
    (case aPk_ => k_is)
    (case lPk_ => k_is)
    (case cPk_ => k_is)
    (case kPk_ => k_is)
    (case aMx_ => k_is)
    (case lMx_ => k_is)
    (case cMx_ => k_is)
    (case kMx_ => k_is)
    (case aIn_ => k_is)
    (case lIn_ => k_is)
    (case cIn_ => k_is)
    (case kIn_ => k_is)
    (case aWi_ => k_is)
    (case lWi_ => k_is)
    (case cWi_ => k_is)
    (case kWi_ => k_is)
    (case aDn_ => k_is)
    (case lDn_ => k_is)
    (case cDn_ => k_is)
    (case kDn_ => k_is)
    (case aBk_ => k_is)
    (case lBk_ => k_is)
    (case cBk_ => k_is)
    (case kBk_ => k_is)
    (case aHd_ => k_is)
    (case lHd_ => k_is)
    (case cHd_ => k_is)
    (case kHd_ => k_is)
    (case aPa_ => k_is)
    (case lPa_ => k_is)
    (case cPa_ => k_is)
    (case kPa_ => k_is)
    (case aPu_ => k_is)
    (case lPu_ => k_is)
    (case cPu_ => k_is)
    (case kPu_ => k_is)
    (case aPs_ => k_is)
    (case lPs_ => k_is)
    (case cPs_ => k_is)
    (case kPs_ => k_is)
    (case aSo_ => k_is)
    (case lSo_ => k_is)
    (case cSo_ => k_is)
    (case kSo_ => k_is)
    (case aLW_ => k_is)
    (case lLW_ => k_is)
    (case cLW_ => k_is)
    (case kLW_ => k_is)
    (case aMd_ => k_is)
    (case lMd_ => k_is)
    (case cMd_ => k_is)
    (case kMd_ => k_is)
    (case aWr_ => k_is)
    (case lWr_ => k_is)
    (case cWr_ => k_is)
    (case kWr_ => k_is)
    (case aNm_ => k_is)
    (case lNm_ => k_is)
    (case cNm_ => k_is)
    (case kNm_ => k_is)
    (case aSg_ => k_is)
    (case lSg_ => k_is)
    (case cSg_ => k_is)
    (case kSg_ => k_is)
    (case aSm_ => k_is)
    (case lSm_ => k_is)
    (case cSm_ => k_is)
    (case kSm_ => k_is)
    (case aRi_ => k_is)
    (case lRi_ => k_is)
    (case cRi_ => k_is)
    (case kRi_ => k_is)
    (case aLa_ => k_is)
    (case lLa_ => k_is)
    (case cLa_ => k_is)
    (case kLa_ => k_is)
    (case z0 => k_is)
    (case z1 => k_is)
    (case z2 => k_is)
    (case z3 => k_is)
    (case z4 => k_is)
    (case z5 => k_is)
    (case z6 => k_is)
    (case z7 => k_is)
    (case z8 => k_is)
    (case z9 => k_is)
    (case z10 => k_is)
    (case z11 => k_is)
    (case z12 => k_is)
    (case z13 => k_is)
    (case z14 => k_is)
    (case z15 => k_is)
    (case z16 => k_is)
