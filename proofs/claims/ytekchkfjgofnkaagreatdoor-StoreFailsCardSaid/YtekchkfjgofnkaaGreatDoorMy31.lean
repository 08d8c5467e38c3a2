/- Texts of one proof. -/
import Derived.Test.YtekchkfjgofnkaaGreatDoorMy30
set_option maxRecDepth 100000
set_option maxHeartbeats 8000000
namespace Go.Proofs.YtekchkfjgofnkaaGreatDoor
open Go.RowKit Go.Maps Go.Sort
def zAx (f g:Bool×Int):Int:=if zAW g=true then 7 else if zAW f=true then 8 else 0
def zAs (f g:Bool×Int) (late:Bool):Bool:=if zAW g=true then late else !zAW f
theorem zBH {w w' w'':World} {row:Option Nat} (h:w.grownBy w' none) (k:w'.grownBy w'' row):w.grownBy w'' row :=
 ⟨k.os.trans h.os,k.tape.trans h.tape,k.output.trans h.output,Nat.le_trans h.size k.size,fun i hi hne =>(k.block i (Nat.lt_of_lt_of_le hi h.size) hne).trans (h.block i hi (by simp))⟩
theorem zQj (p b:Nat) (down:Bool) (f g:Bool×Int) (hf:zAN f) (hg:zAN g) (ha1:zAW f=true) (ha2:zAW g=true) (k:FuncId) (hen:Enters Tryz.prog k) (caps:Array Value) (w:World) (h:zAM w p b down f g) (R:World→World→Prop)
  (hdo:∀ d W,zAM W p b d (zAI f) (zAI g)→w.grownBy W (some p)→Calls Tryz.prog k caps W fun e w' =>e=.returned (.tuple #[])∧R W w') :
  Calls Tryz.prog 66 #[.pointer (some ⟨p,0,none⟩),.bool true,.func (.func k) #[] caps] w fun e w' =>∃ W,zAM W p b true (zAI f) (zAI g)∧w.grownBy W (some p)∧e=.returned (.int .i64 7)∧R W w':=by
 have HDO:=yh hdo
 have hen2:∀ (args:Array Value) (w:World),(callFunc k args).run Tryz.prog w=.ok (.enter k args) w:=hen
 have HAF:=yh ha1
 have HAG:=yh ha2
 clear hdo ha1 ha2
 go_enter Tryz.func66,Tryz.ntmps66
 go_wp2
 refine wp_region_held (S:=fun _ =>True) (by kernel_rfl) (show wpAnyH _ _ _ _ _ _ _ _ (w.drew) from ?_)
 have HX0:Hid (zAM w.drew p b down f g):=h
 have HD0:Hid (w.grownBy w.drew none):=⟨rfl,rfl,rfl,Nat.le_refl _,fun _ _ _ =>rfl⟩
 clear h
 obtain ⟨w0,hw0⟩:∃ x,x=w.drew:=⟨_,rfl⟩
 rw [← hw0] at HX0 HD0 ⊢
 clear hw0
 refine zAB 0 (.pointer (some ⟨p,0,none⟩)) rfl (by kernel_rfl) (by kernel_rfl) (by kernel_rfl) (fun _ _ _ h =>h) (by kernel_rfl) trivial (fun _ _ =>by kernel_rfl) ?_
 refine zAB 1 (.pointer (some ⟨p,0,none⟩)) rfl (by kernel_rfl) (by kernel_rfl) (by kernel_rfl) (fun _ _ _ h =>h) (by kernel_rfl) trivial (fun _ _ =>by go_simp) ?_
 refine zAB 2 (.pointer (some ⟨p,2,none⟩)) rfl (by kernel_rfl) (by kernel_rfl) (by kernel_rfl) (fun _ _ _ h =>h) (by kernel_rfl) trivial (fun _ _ =>by go_simp) ?_
 refine zAB 4 (.pointer (some ⟨p,0,none⟩)) rfl (by kernel_rfl) (by kernel_rfl) (by kernel_rfl) (fun _ _ _ h =>h) (by kernel_rfl) trivial (fun _ _ =>by kernel_rfl) ?_
 refine zAB 5 (.pointer (some ⟨p,0,none⟩)) rfl (by kernel_rfl) (by kernel_rfl) (by kernel_rfl) (fun _ _ _ h =>h) (by kernel_rfl) trivial (fun _ _ =>by go_simp) ?_
 refine zAB 6 (.pointer (some ⟨p,4,none⟩)) rfl (by kernel_rfl) (by kernel_rfl) (by kernel_rfl) (fun _ _ _ h =>h) (by kernel_rfl) trivial (fun _ _ =>by go_simp) ?_
 refine zAO 3 rfl (by kernel_rfl) (by kernel_rfl) (fun K hK =>?_)
 go_simp
 refine (zBr p b down f g hf w0 (HX0.out)).mono ?_
 rintro e w1 ⟨he1,hx1,hg1⟩
 rw [HAF.out] at he1;subst he1
 have HX1:=yh hx1
 have HG1:=yh hg1
 clear hx1 hg1
 refine hK _ _ trivial ?_
 clear hK K
 refine zAO 7 rfl (by kernel_rfl) (by kernel_rfl) (fun K hK =>?_)
 go_simp
 refine (zBs p b down (zAI f) g hg w1 (HX1.out)).mono ?_
 rintro e w2 ⟨he2,hx2,hg2⟩
 rw [HAG.out] at he2;subst he2
 have HX2:=yh hx2
 have HG2:=yh hg2
 clear hx2 hg2
 refine hK _ _ trivial ?_
 clear hK K
 refine zAB 8 (.bool true) rfl (by kernel_rfl) (by kernel_rfl) (by kernel_rfl) (fun _ _ _ h =>h) (by kernel_rfl) trivial (fun _ _ =>by kernel_rfl) ?_
 refine zAB 9 (.bool true) rfl (by kernel_rfl) (by kernel_rfl) (by kernel_rfl) (fun _ _ _ h =>h) (by kernel_rfl) trivial (fun _ _ =>by kernel_rfl) ?_
 refine wpAnyH_done (by kernel_rfl) ?_ _
 go_simp
 have HW:=yh (HG1.out.trans HG2.out)
 have HX:=HX2
 generalize w2=w5 at HX HW ⊢
 have hfz:w5.frozen? ⟨p,1,none⟩=false:=zAC HX.out
 have hq1:=zAA (i:=1) HX.out rfl
 have HS:=yh (zAo HX.out (i:=1) (.bool true))
 have HB:Hid (zAM (w5.setCell ⟨p,1,none⟩ (.bool true)) p b true (zAI f) (zAI g)):=HS.out.1
 have HGW:Hid (w.grownBy (w5.setCell ⟨p,1,none⟩ (.bool true)) (some p)):=(zBH HD0.out (HW.out.trans HS.out.2))
 go_wp2_with fail
 refine (HDO.out true _ HB.out HGW.out).mono ?_
 rintro e w7 ⟨rfl,hr⟩
 have HR:=yh hr
 clear hr
 go_wp2
 go_ret
 exact ⟨_,HB.out,HGW.out,rfl,HR.out⟩
theorem zQi (p b:Nat) (down:Bool) (f g:Bool×Int) (hf:zAN f) (hg:zAN g) (ha1:zAW f=true) (ha2:zAW g=true) (k:FuncId) (hen:Enters Tryz.prog k) (caps:Array Value) (w:World) (h:zAM w p b down f g) (R:World→World→Prop)
  (hdo:∀ d W,zAM W p b d (zAI f) (zAI g)→w.grownBy W (some p)→Calls Tryz.prog k caps W fun e w' =>e=.returned (.tuple #[])∧R W w') :
  Calls Tryz.prog 66 #[.pointer (some ⟨p,0,none⟩),.bool false,.func (.func k) #[] caps] w fun e w' =>∃ W,zAM W p b true (zAI f) (zAI g)∧w.grownBy W (some p)∧e=.returned (.int .i64 7)∧w'=W:=by
 have HDO:=yh hdo
 have hen2:∀ (args:Array Value) (w:World),(callFunc k args).run Tryz.prog w=.ok (.enter k args) w:=hen
 have HAF:=yh ha1
 have HAG:=yh ha2
 clear hdo ha1 ha2
 go_enter Tryz.func66,Tryz.ntmps66
 go_wp2
 refine wp_region_held (S:=fun _ =>True) (by kernel_rfl) (show wpAnyH _ _ _ _ _ _ _ _ (w.drew) from ?_)
 have HX0:Hid (zAM w.drew p b down f g):=h
 have HD0:Hid (w.grownBy w.drew none):=⟨rfl,rfl,rfl,Nat.le_refl _,fun _ _ _ =>rfl⟩
 clear h
 obtain ⟨w0,hw0⟩:∃ x,x=w.drew:=⟨_,rfl⟩
 rw [← hw0] at HX0 HD0 ⊢
 clear hw0
 refine zAB 0 (.pointer (some ⟨p,0,none⟩)) rfl (by kernel_rfl) (by kernel_rfl) (by kernel_rfl) (fun _ _ _ h =>h) (by kernel_rfl) trivial (fun _ _ =>by kernel_rfl) ?_
 refine zAB 1 (.pointer (some ⟨p,0,none⟩)) rfl (by kernel_rfl) (by kernel_rfl) (by kernel_rfl) (fun _ _ _ h =>h) (by kernel_rfl) trivial (fun _ _ =>by go_simp) ?_
 refine zAB 2 (.pointer (some ⟨p,2,none⟩)) rfl (by kernel_rfl) (by kernel_rfl) (by kernel_rfl) (fun _ _ _ h =>h) (by kernel_rfl) trivial (fun _ _ =>by go_simp) ?_
 refine zAB 4 (.pointer (some ⟨p,0,none⟩)) rfl (by kernel_rfl) (by kernel_rfl) (by kernel_rfl) (fun _ _ _ h =>h) (by kernel_rfl) trivial (fun _ _ =>by kernel_rfl) ?_
 refine zAB 5 (.pointer (some ⟨p,0,none⟩)) rfl (by kernel_rfl) (by kernel_rfl) (by kernel_rfl) (fun _ _ _ h =>h) (by kernel_rfl) trivial (fun _ _ =>by go_simp) ?_
 refine zAB 6 (.pointer (some ⟨p,4,none⟩)) rfl (by kernel_rfl) (by kernel_rfl) (by kernel_rfl) (fun _ _ _ h =>h) (by kernel_rfl) trivial (fun _ _ =>by go_simp) ?_
 refine zAO 3 rfl (by kernel_rfl) (by kernel_rfl) (fun K hK =>?_)
 go_simp
 refine (zBr p b down f g hf w0 (HX0.out)).mono ?_
 rintro e w1 ⟨he1,hx1,hg1⟩
 rw [HAF.out] at he1;subst he1
 have HX1:=yh hx1
 have HG1:=yh hg1
 clear hx1 hg1
 refine hK _ _ trivial ?_
 clear hK K
 refine zAO 7 rfl (by kernel_rfl) (by kernel_rfl) (fun K hK =>?_)
 go_simp
 refine (zBs p b down (zAI f) g hg w1 (HX1.out)).mono ?_
 rintro e w2 ⟨he2,hx2,hg2⟩
 rw [HAG.out] at he2;subst he2
 have HX2:=yh hx2
 have HG2:=yh hg2
 clear hx2 hg2
 refine hK _ _ trivial ?_
 clear hK K
 refine zAB 8 (.bool true) rfl (by kernel_rfl) (by kernel_rfl) (by kernel_rfl) (fun _ _ _ h =>h) (by kernel_rfl) trivial (fun _ _ =>by kernel_rfl) ?_
 refine zAB 9 (.bool true) rfl (by kernel_rfl) (by kernel_rfl) (by kernel_rfl) (fun _ _ _ h =>h) (by kernel_rfl) trivial (fun _ _ =>by kernel_rfl) ?_
 refine wpAnyH_done (by kernel_rfl) ?_ _
 go_simp
 have HW:=yh (HG1.out.trans HG2.out)
 have HX:=HX2
 generalize w2=w5 at HX HW ⊢
 have hfz:w5.frozen? ⟨p,1,none⟩=false:=zAC HX.out
 have hq1:=zAA (i:=1) HX.out rfl
 have HS:=yh (zAo HX.out (i:=1) (.bool true))
 have HB:Hid (zAM (w5.setCell ⟨p,1,none⟩ (.bool true)) p b true (zAI f) (zAI g)):=HS.out.1
 have HGW:Hid (w.grownBy (w5.setCell ⟨p,1,none⟩ (.bool true)) (some p)):=(zBH HD0.out (HW.out.trans HS.out.2))
 go_wp2
 go_ret
 exact ⟨_,HB.out,HGW.out,rfl,rfl⟩
theorem zQf (p b:Nat) (down:Bool) (f g:Bool×Int) (hf:zAN f) (hg:zAN g) (ha1:zAW f=false) (ha2:zAW g=true) (k:FuncId) (hen:Enters Tryz.prog k) (caps:Array Value) (w:World) (h:zAM w p b down f g) (R:World→World→Prop)
  (hdo:∀ d W,zAM W p b d (zAI f) (zAI g)→w.grownBy W (some p)→Calls Tryz.prog k caps W fun e w' =>e=.returned (.tuple #[])∧R W w') :
  Calls Tryz.prog 66 #[.pointer (some ⟨p,0,none⟩),.bool true,.func (.func k) #[] caps] w fun e w' =>∃ W,zAM W p b true (zAI f) (zAI g)∧w.grownBy W (some p)∧e=.returned (.int .i64 7)∧R W w':=by
 have HDO:=yh hdo
 have hen2:∀ (args:Array Value) (w:World),(callFunc k args).run Tryz.prog w=.ok (.enter k args) w:=hen
 have HAF:=yh ha1
 have HAG:=yh ha2
 clear hdo ha1 ha2
 go_enter Tryz.func66,Tryz.ntmps66
 go_wp2
 refine wp_region_held (S:=fun _ =>True) (by kernel_rfl) (show wpAnyH _ _ _ _ _ _ _ _ (w.drew) from ?_)
 have HX0:Hid (zAM w.drew p b down f g):=h
 have HD0:Hid (w.grownBy w.drew none):=⟨rfl,rfl,rfl,Nat.le_refl _,fun _ _ _ =>rfl⟩
 clear h
 obtain ⟨w0,hw0⟩:∃ x,x=w.drew:=⟨_,rfl⟩
 rw [← hw0] at HX0 HD0 ⊢
 clear hw0
 refine zAB 0 (.pointer (some ⟨p,0,none⟩)) rfl (by kernel_rfl) (by kernel_rfl) (by kernel_rfl) (fun _ _ _ h =>h) (by kernel_rfl) trivial (fun _ _ =>by kernel_rfl) ?_
 refine zAB 1 (.pointer (some ⟨p,0,none⟩)) rfl (by kernel_rfl) (by kernel_rfl) (by kernel_rfl) (fun _ _ _ h =>h) (by kernel_rfl) trivial (fun _ _ =>by go_simp) ?_
 refine zAB 2 (.pointer (some ⟨p,2,none⟩)) rfl (by kernel_rfl) (by kernel_rfl) (by kernel_rfl) (fun _ _ _ h =>h) (by kernel_rfl) trivial (fun _ _ =>by go_simp) ?_
 refine zAB 4 (.pointer (some ⟨p,0,none⟩)) rfl (by kernel_rfl) (by kernel_rfl) (by kernel_rfl) (fun _ _ _ h =>h) (by kernel_rfl) trivial (fun _ _ =>by kernel_rfl) ?_
 refine zAB 5 (.pointer (some ⟨p,0,none⟩)) rfl (by kernel_rfl) (by kernel_rfl) (by kernel_rfl) (fun _ _ _ h =>h) (by kernel_rfl) trivial (fun _ _ =>by go_simp) ?_
 refine zAB 6 (.pointer (some ⟨p,4,none⟩)) rfl (by kernel_rfl) (by kernel_rfl) (by kernel_rfl) (fun _ _ _ h =>h) (by kernel_rfl) trivial (fun _ _ =>by go_simp) ?_
 refine zAO 3 rfl (by kernel_rfl) (by kernel_rfl) (fun K hK =>?_)
 go_simp
 refine (zBr p b down f g hf w0 (HX0.out)).mono ?_
 rintro e w1 ⟨he1,hx1,hg1⟩
 rw [HAF.out] at he1;subst he1
 have HX1:=yh hx1
 have HG1:=yh hg1
 clear hx1 hg1
 refine hK _ _ trivial ?_
 clear hK K
 refine zAO 7 rfl (by kernel_rfl) (by kernel_rfl) (fun K hK =>?_)
 go_simp
 refine (zBs p b down (zAI f) g hg w1 (HX1.out)).mono ?_
 rintro e w2 ⟨he2,hx2,hg2⟩
 rw [HAG.out] at he2;subst he2
 have HX2:=yh hx2
 have HG2:=yh hg2
 clear hx2 hg2
 refine hK _ _ trivial ?_
 clear hK K
 refine zAB 8 (.bool false) rfl (by kernel_rfl) (by kernel_rfl) (by kernel_rfl) (fun _ _ _ h =>h) (by kernel_rfl) trivial (fun _ _ =>by kernel_rfl) ?_
 refine zAB 9 (.bool true) rfl (by kernel_rfl) (by kernel_rfl) (by kernel_rfl) (fun _ _ _ h =>h) (by kernel_rfl) trivial (fun _ _ =>by kernel_rfl) ?_
 refine wpAnyH_done (by kernel_rfl) ?_ _
 go_simp
 have HW:=yh (HG1.out.trans HG2.out)
 have HX:=HX2
 generalize w2=w5 at HX HW ⊢
 have hfz:w5.frozen? ⟨p,1,none⟩=false:=zAC HX.out
 have hq1:=zAA (i:=1) HX.out rfl
 have HS:=yh (zAo HX.out (i:=1) (.bool true))
 have HB:Hid (zAM (w5.setCell ⟨p,1,none⟩ (.bool true)) p b true (zAI f) (zAI g)):=HS.out.1
 have HGW:Hid (w.grownBy (w5.setCell ⟨p,1,none⟩ (.bool true)) (some p)):=(zBH HD0.out (HW.out.trans HS.out.2))
 go_wp2_with fail
 refine (HDO.out true _ HB.out HGW.out).mono ?_
 rintro e w7 ⟨rfl,hr⟩
 have HR:=yh hr
 clear hr
 go_wp2
 go_ret
 exact ⟨_,HB.out,HGW.out,rfl,HR.out⟩
theorem zQe (p b:Nat) (down:Bool) (f g:Bool×Int) (hf:zAN f) (hg:zAN g) (ha1:zAW f=false) (ha2:zAW g=true) (k:FuncId) (hen:Enters Tryz.prog k) (caps:Array Value) (w:World) (h:zAM w p b down f g) (R:World→World→Prop)
  (hdo:∀ d W,zAM W p b d (zAI f) (zAI g)→w.grownBy W (some p)→Calls Tryz.prog k caps W fun e w' =>e=.returned (.tuple #[])∧R W w') :
  Calls Tryz.prog 66 #[.pointer (some ⟨p,0,none⟩),.bool false,.func (.func k) #[] caps] w fun e w' =>∃ W,zAM W p b true (zAI f) (zAI g)∧w.grownBy W (some p)∧e=.returned (.int .i64 7)∧w'=W:=by
 have HDO:=yh hdo
 have hen2:∀ (args:Array Value) (w:World),(callFunc k args).run Tryz.prog w=.ok (.enter k args) w:=hen
 have HAF:=yh ha1
 have HAG:=yh ha2
 clear hdo ha1 ha2
 go_enter Tryz.func66,Tryz.ntmps66
 go_wp2
 refine wp_region_held (S:=fun _ =>True) (by kernel_rfl) (show wpAnyH _ _ _ _ _ _ _ _ (w.drew) from ?_)
 have HX0:Hid (zAM w.drew p b down f g):=h
 have HD0:Hid (w.grownBy w.drew none):=⟨rfl,rfl,rfl,Nat.le_refl _,fun _ _ _ =>rfl⟩
 clear h
 obtain ⟨w0,hw0⟩:∃ x,x=w.drew:=⟨_,rfl⟩
 rw [← hw0] at HX0 HD0 ⊢
 clear hw0
 refine zAB 0 (.pointer (some ⟨p,0,none⟩)) rfl (by kernel_rfl) (by kernel_rfl) (by kernel_rfl) (fun _ _ _ h =>h) (by kernel_rfl) trivial (fun _ _ =>by kernel_rfl) ?_
 refine zAB 1 (.pointer (some ⟨p,0,none⟩)) rfl (by kernel_rfl) (by kernel_rfl) (by kernel_rfl) (fun _ _ _ h =>h) (by kernel_rfl) trivial (fun _ _ =>by go_simp) ?_
 refine zAB 2 (.pointer (some ⟨p,2,none⟩)) rfl (by kernel_rfl) (by kernel_rfl) (by kernel_rfl) (fun _ _ _ h =>h) (by kernel_rfl) trivial (fun _ _ =>by go_simp) ?_
 refine zAB 4 (.pointer (some ⟨p,0,none⟩)) rfl (by kernel_rfl) (by kernel_rfl) (by kernel_rfl) (fun _ _ _ h =>h) (by kernel_rfl) trivial (fun _ _ =>by kernel_rfl) ?_
 refine zAB 5 (.pointer (some ⟨p,0,none⟩)) rfl (by kernel_rfl) (by kernel_rfl) (by kernel_rfl) (fun _ _ _ h =>h) (by kernel_rfl) trivial (fun _ _ =>by go_simp) ?_
 refine zAB 6 (.pointer (some ⟨p,4,none⟩)) rfl (by kernel_rfl) (by kernel_rfl) (by kernel_rfl) (fun _ _ _ h =>h) (by kernel_rfl) trivial (fun _ _ =>by go_simp) ?_
 refine zAO 3 rfl (by kernel_rfl) (by kernel_rfl) (fun K hK =>?_)
 go_simp
 refine (zBr p b down f g hf w0 (HX0.out)).mono ?_
 rintro e w1 ⟨he1,hx1,hg1⟩
 rw [HAF.out] at he1;subst he1
 have HX1:=yh hx1
 have HG1:=yh hg1
 clear hx1 hg1
 refine hK _ _ trivial ?_
 clear hK K
 refine zAO 7 rfl (by kernel_rfl) (by kernel_rfl) (fun K hK =>?_)
 go_simp
 refine (zBs p b down (zAI f) g hg w1 (HX1.out)).mono ?_
 rintro e w2 ⟨he2,hx2,hg2⟩
 rw [HAG.out] at he2;subst he2
 have HX2:=yh hx2
 have HG2:=yh hg2
 clear hx2 hg2
 refine hK _ _ trivial ?_
 clear hK K
 refine zAB 8 (.bool false) rfl (by kernel_rfl) (by kernel_rfl) (by kernel_rfl) (fun _ _ _ h =>h) (by kernel_rfl) trivial (fun _ _ =>by kernel_rfl) ?_
 refine zAB 9 (.bool true) rfl (by kernel_rfl) (by kernel_rfl) (by kernel_rfl) (fun _ _ _ h =>h) (by kernel_rfl) trivial (fun _ _ =>by kernel_rfl) ?_
 refine wpAnyH_done (by kernel_rfl) ?_ _
 go_simp
 have HW:=yh (HG1.out.trans HG2.out)
 have HX:=HX2
 generalize w2=w5 at HX HW ⊢
 have hfz:w5.frozen? ⟨p,1,none⟩=false:=zAC HX.out
 have hq1:=zAA (i:=1) HX.out rfl
 have HS:=yh (zAo HX.out (i:=1) (.bool true))
 have HB:Hid (zAM (w5.setCell ⟨p,1,none⟩ (.bool true)) p b true (zAI f) (zAI g)):=HS.out.1
 have HGW:Hid (w.grownBy (w5.setCell ⟨p,1,none⟩ (.bool true)) (some p)):=(zBH HD0.out (HW.out.trans HS.out.2))
 go_wp2
 go_ret
 exact ⟨_,HB.out,HGW.out,rfl,rfl⟩
theorem zQh (p b:Nat) (down:Bool) (f g:Bool×Int) (hf:zAN f) (hg:zAN g) (ha1:zAW f=true) (ha2:zAW g=false) (k:FuncId) (hen:Enters Tryz.prog k) (caps:Array Value) (w:World) (h:zAM w p b down f g) (R:World→World→Prop)
  (hdo:∀ d W,zAM W p b d (zAI f) (zAI g)→w.grownBy W (some p)→Calls Tryz.prog k caps W fun e w' =>e=.returned (.tuple #[])∧R W w') :
  Calls Tryz.prog 66 #[.pointer (some ⟨p,0,none⟩),.bool true,.func (.func k) #[] caps] w fun e w' =>∃ W,zAM W p b down (zAI f) (zAI g)∧w.grownBy W (some p)∧e=.returned (.int .i64 8)∧w'=W:=by
 have HDO:=yh hdo
 have hen2:∀ (args:Array Value) (w:World),(callFunc k args).run Tryz.prog w=.ok (.enter k args) w:=hen
 have HAF:=yh ha1
 have HAG:=yh ha2
 clear hdo ha1 ha2
 go_enter Tryz.func66,Tryz.ntmps66
 go_wp2
 refine wp_region_held (S:=fun _ =>True) (by kernel_rfl) (show wpAnyH _ _ _ _ _ _ _ _ (w.drew) from ?_)
 have HX0:Hid (zAM w.drew p b down f g):=h
 have HD0:Hid (w.grownBy w.drew none):=⟨rfl,rfl,rfl,Nat.le_refl _,fun _ _ _ =>rfl⟩
 clear h
 obtain ⟨w0,hw0⟩:∃ x,x=w.drew:=⟨_,rfl⟩
 rw [← hw0] at HX0 HD0 ⊢
 clear hw0
 refine zAB 0 (.pointer (some ⟨p,0,none⟩)) rfl (by kernel_rfl) (by kernel_rfl) (by kernel_rfl) (fun _ _ _ h =>h) (by kernel_rfl) trivial (fun _ _ =>by kernel_rfl) ?_
 refine zAB 1 (.pointer (some ⟨p,0,none⟩)) rfl (by kernel_rfl) (by kernel_rfl) (by kernel_rfl) (fun _ _ _ h =>h) (by kernel_rfl) trivial (fun _ _ =>by go_simp) ?_
 refine zAB 2 (.pointer (some ⟨p,2,none⟩)) rfl (by kernel_rfl) (by kernel_rfl) (by kernel_rfl) (fun _ _ _ h =>h) (by kernel_rfl) trivial (fun _ _ =>by go_simp) ?_
 refine zAB 4 (.pointer (some ⟨p,0,none⟩)) rfl (by kernel_rfl) (by kernel_rfl) (by kernel_rfl) (fun _ _ _ h =>h) (by kernel_rfl) trivial (fun _ _ =>by kernel_rfl) ?_
 refine zAB 5 (.pointer (some ⟨p,0,none⟩)) rfl (by kernel_rfl) (by kernel_rfl) (by kernel_rfl) (fun _ _ _ h =>h) (by kernel_rfl) trivial (fun _ _ =>by go_simp) ?_
 refine zAB 6 (.pointer (some ⟨p,4,none⟩)) rfl (by kernel_rfl) (by kernel_rfl) (by kernel_rfl) (fun _ _ _ h =>h) (by kernel_rfl) trivial (fun _ _ =>by go_simp) ?_
 refine zAO 3 rfl (by kernel_rfl) (by kernel_rfl) (fun K hK =>?_)
 go_simp
 refine (zBr p b down f g hf w0 (HX0.out)).mono ?_
 rintro e w1 ⟨he1,hx1,hg1⟩
 rw [HAF.out] at he1;subst he1
 have HX1:=yh hx1
 have HG1:=yh hg1
 clear hx1 hg1
 refine hK _ _ trivial ?_
 clear hK K
 refine zAO 7 rfl (by kernel_rfl) (by kernel_rfl) (fun K hK =>?_)
 go_simp
 refine (zBs p b down (zAI f) g hg w1 (HX1.out)).mono ?_
 rintro e w2 ⟨he2,hx2,hg2⟩
 rw [HAG.out] at he2;subst he2
 have HX2:=yh hx2
 have HG2:=yh hg2
 clear hx2 hg2
 refine hK _ _ trivial ?_
 clear hK K
 refine zAB 8 (.bool true) rfl (by kernel_rfl) (by kernel_rfl) (by kernel_rfl) (fun _ _ _ h =>h) (by kernel_rfl) trivial (fun _ _ =>by kernel_rfl) ?_
 refine zAB 9 (.bool false) rfl (by kernel_rfl) (by kernel_rfl) (by kernel_rfl) (fun _ _ _ h =>h) (by kernel_rfl) trivial (fun _ _ =>by kernel_rfl) ?_
 refine wpAnyH_done (by kernel_rfl) ?_ _
 go_simp
 have HW:=yh (HG1.out.trans HG2.out)
 have HX:=HX2
 generalize w2=w5 at HX HW ⊢
 have HB:=HX
 have HGW:Hid (w.grownBy w5 (some p)):=zBH HD0.out HW.out
 go_wp2
 go_ret
 exact ⟨_,HB.out,HGW.out,rfl,rfl⟩
theorem zQg (p b:Nat) (down:Bool) (f g:Bool×Int) (hf:zAN f) (hg:zAN g) (ha1:zAW f=true) (ha2:zAW g=false) (k:FuncId) (hen:Enters Tryz.prog k) (caps:Array Value) (w:World) (h:zAM w p b down f g) (R:World→World→Prop)
  (hdo:∀ d W,zAM W p b d (zAI f) (zAI g)→w.grownBy W (some p)→Calls Tryz.prog k caps W fun e w' =>e=.returned (.tuple #[])∧R W w') :
  Calls Tryz.prog 66 #[.pointer (some ⟨p,0,none⟩),.bool false,.func (.func k) #[] caps] w fun e w' =>∃ W,zAM W p b down (zAI f) (zAI g)∧w.grownBy W (some p)∧e=.returned (.int .i64 8)∧w'=W:=by
 have HDO:=yh hdo
 have hen2:∀ (args:Array Value) (w:World),(callFunc k args).run Tryz.prog w=.ok (.enter k args) w:=hen
 have HAF:=yh ha1
 have HAG:=yh ha2
 clear hdo ha1 ha2
 go_enter Tryz.func66,Tryz.ntmps66
 go_wp2
 refine wp_region_held (S:=fun _ =>True) (by kernel_rfl) (show wpAnyH _ _ _ _ _ _ _ _ (w.drew) from ?_)
 have HX0:Hid (zAM w.drew p b down f g):=h
 have HD0:Hid (w.grownBy w.drew none):=⟨rfl,rfl,rfl,Nat.le_refl _,fun _ _ _ =>rfl⟩
 clear h
 obtain ⟨w0,hw0⟩:∃ x,x=w.drew:=⟨_,rfl⟩
 rw [← hw0] at HX0 HD0 ⊢
 clear hw0
 refine zAB 0 (.pointer (some ⟨p,0,none⟩)) rfl (by kernel_rfl) (by kernel_rfl) (by kernel_rfl) (fun _ _ _ h =>h) (by kernel_rfl) trivial (fun _ _ =>by kernel_rfl) ?_
 refine zAB 1 (.pointer (some ⟨p,0,none⟩)) rfl (by kernel_rfl) (by kernel_rfl) (by kernel_rfl) (fun _ _ _ h =>h) (by kernel_rfl) trivial (fun _ _ =>by go_simp) ?_
 refine zAB 2 (.pointer (some ⟨p,2,none⟩)) rfl (by kernel_rfl) (by kernel_rfl) (by kernel_rfl) (fun _ _ _ h =>h) (by kernel_rfl) trivial (fun _ _ =>by go_simp) ?_
 refine zAB 4 (.pointer (some ⟨p,0,none⟩)) rfl (by kernel_rfl) (by kernel_rfl) (by kernel_rfl) (fun _ _ _ h =>h) (by kernel_rfl) trivial (fun _ _ =>by kernel_rfl) ?_
 refine zAB 5 (.pointer (some ⟨p,0,none⟩)) rfl (by kernel_rfl) (by kernel_rfl) (by kernel_rfl) (fun _ _ _ h =>h) (by kernel_rfl) trivial (fun _ _ =>by go_simp) ?_
 refine zAB 6 (.pointer (some ⟨p,4,none⟩)) rfl (by kernel_rfl) (by kernel_rfl) (by kernel_rfl) (fun _ _ _ h =>h) (by kernel_rfl) trivial (fun _ _ =>by go_simp) ?_
 refine zAO 3 rfl (by kernel_rfl) (by kernel_rfl) (fun K hK =>?_)
 go_simp
 refine (zBr p b down f g hf w0 (HX0.out)).mono ?_
 rintro e w1 ⟨he1,hx1,hg1⟩
 rw [HAF.out] at he1;subst he1
 have HX1:=yh hx1
 have HG1:=yh hg1
 clear hx1 hg1
 refine hK _ _ trivial ?_
 clear hK K
 refine zAO 7 rfl (by kernel_rfl) (by kernel_rfl) (fun K hK =>?_)
 go_simp
 refine (zBs p b down (zAI f) g hg w1 (HX1.out)).mono ?_
 rintro e w2 ⟨he2,hx2,hg2⟩
 rw [HAG.out] at he2;subst he2
 have HX2:=yh hx2
 have HG2:=yh hg2
 clear hx2 hg2
 refine hK _ _ trivial ?_
 clear hK K
 refine zAB 8 (.bool true) rfl (by kernel_rfl) (by kernel_rfl) (by kernel_rfl) (fun _ _ _ h =>h) (by kernel_rfl) trivial (fun _ _ =>by kernel_rfl) ?_
 refine zAB 9 (.bool false) rfl (by kernel_rfl) (by kernel_rfl) (by kernel_rfl) (fun _ _ _ h =>h) (by kernel_rfl) trivial (fun _ _ =>by kernel_rfl) ?_
 refine wpAnyH_done (by kernel_rfl) ?_ _
 go_simp
 have HW:=yh (HG1.out.trans HG2.out)
 have HX:=HX2
 generalize w2=w5 at HX HW ⊢
 have HB:=HX
 have HGW:Hid (w.grownBy w5 (some p)):=zBH HD0.out HW.out
 go_wp2
 go_ret
 exact ⟨_,HB.out,HGW.out,rfl,rfl⟩
theorem zQd (p b:Nat) (down:Bool) (f g:Bool×Int) (hf:zAN f) (hg:zAN g) (ha1:zAW f=false) (ha2:zAW g=false) (k:FuncId) (hen:Enters Tryz.prog k) (caps:Array Value) (w:World) (h:zAM w p b down f g) (R:World→World→Prop)
  (hdo:∀ d W,zAM W p b d (zAI f) (zAI g)→w.grownBy W (some p)→Calls Tryz.prog k caps W fun e w' =>e=.returned (.tuple #[])∧R W w') :
  Calls Tryz.prog 66 #[.pointer (some ⟨p,0,none⟩),.bool true,.func (.func k) #[] caps] w fun e w' =>∃ W,zAM W p b down (zAI f) (zAI g)∧w.grownBy W (some p)∧e=.returned (.int .i64 0)∧R W w':=by
 have HDO:=yh hdo
 have hen2:∀ (args:Array Value) (w:World),(callFunc k args).run Tryz.prog w=.ok (.enter k args) w:=hen
 have HAF:=yh ha1
 have HAG:=yh ha2
 clear hdo ha1 ha2
 go_enter Tryz.func66,Tryz.ntmps66
 go_wp2
 refine wp_region_held (S:=fun _ =>True) (by kernel_rfl) (show wpAnyH _ _ _ _ _ _ _ _ (w.drew) from ?_)
 have HX0:Hid (zAM w.drew p b down f g):=h
 have HD0:Hid (w.grownBy w.drew none):=⟨rfl,rfl,rfl,Nat.le_refl _,fun _ _ _ =>rfl⟩
 clear h
 obtain ⟨w0,hw0⟩:∃ x,x=w.drew:=⟨_,rfl⟩
 rw [← hw0] at HX0 HD0 ⊢
 clear hw0
 refine zAB 0 (.pointer (some ⟨p,0,none⟩)) rfl (by kernel_rfl) (by kernel_rfl) (by kernel_rfl) (fun _ _ _ h =>h) (by kernel_rfl) trivial (fun _ _ =>by kernel_rfl) ?_
 refine zAB 1 (.pointer (some ⟨p,0,none⟩)) rfl (by kernel_rfl) (by kernel_rfl) (by kernel_rfl) (fun _ _ _ h =>h) (by kernel_rfl) trivial (fun _ _ =>by go_simp) ?_
 refine zAB 2 (.pointer (some ⟨p,2,none⟩)) rfl (by kernel_rfl) (by kernel_rfl) (by kernel_rfl) (fun _ _ _ h =>h) (by kernel_rfl) trivial (fun _ _ =>by go_simp) ?_
 refine zAB 4 (.pointer (some ⟨p,0,none⟩)) rfl (by kernel_rfl) (by kernel_rfl) (by kernel_rfl) (fun _ _ _ h =>h) (by kernel_rfl) trivial (fun _ _ =>by kernel_rfl) ?_
 refine zAB 5 (.pointer (some ⟨p,0,none⟩)) rfl (by kernel_rfl) (by kernel_rfl) (by kernel_rfl) (fun _ _ _ h =>h) (by kernel_rfl) trivial (fun _ _ =>by go_simp) ?_
 refine zAB 6 (.pointer (some ⟨p,4,none⟩)) rfl (by kernel_rfl) (by kernel_rfl) (by kernel_rfl) (fun _ _ _ h =>h) (by kernel_rfl) trivial (fun _ _ =>by go_simp) ?_
 refine zAO 3 rfl (by kernel_rfl) (by kernel_rfl) (fun K hK =>?_)
 go_simp
 refine (zBr p b down f g hf w0 (HX0.out)).mono ?_
 rintro e w1 ⟨he1,hx1,hg1⟩
 rw [HAF.out] at he1;subst he1
 have HX1:=yh hx1
 have HG1:=yh hg1
 clear hx1 hg1
 refine hK _ _ trivial ?_
 clear hK K
 refine zAO 7 rfl (by kernel_rfl) (by kernel_rfl) (fun K hK =>?_)
 go_simp
 refine (zBs p b down (zAI f) g hg w1 (HX1.out)).mono ?_
 rintro e w2 ⟨he2,hx2,hg2⟩
 rw [HAG.out] at he2;subst he2
 have HX2:=yh hx2
 have HG2:=yh hg2
 clear hx2 hg2
 refine hK _ _ trivial ?_
 clear hK K
 refine zAB 8 (.bool false) rfl (by kernel_rfl) (by kernel_rfl) (by kernel_rfl) (fun _ _ _ h =>h) (by kernel_rfl) trivial (fun _ _ =>by kernel_rfl) ?_
 refine zAB 9 (.bool false) rfl (by kernel_rfl) (by kernel_rfl) (by kernel_rfl) (fun _ _ _ h =>h) (by kernel_rfl) trivial (fun _ _ =>by kernel_rfl) ?_
 refine wpAnyH_done (by kernel_rfl) ?_ _
 go_simp
 have HW:=yh (HG1.out.trans HG2.out)
 have HX:=HX2
 generalize w2=w5 at HX HW ⊢
 have HB:=HX
 have HGW:Hid (w.grownBy w5 (some p)):=zBH HD0.out HW.out
 go_wp2_with fail
 refine (HDO.out down _ HB.out HGW.out).mono ?_
 rintro e w7 ⟨rfl,hr⟩
 have HR:=yh hr
 clear hr
 go_wp2
 go_ret
 exact ⟨_,HB.out,HGW.out,rfl,HR.out⟩
theorem zQc (p b:Nat) (down:Bool) (f g:Bool×Int) (hf:zAN f) (hg:zAN g) (ha1:zAW f=false) (ha2:zAW g=false) (k:FuncId) (hen:Enters Tryz.prog k) (caps:Array Value) (w:World) (h:zAM w p b down f g) (R:World→World→Prop)
  (hdo:∀ d W,zAM W p b d (zAI f) (zAI g)→w.grownBy W (some p)→Calls Tryz.prog k caps W fun e w' =>e=.returned (.tuple #[])∧R W w') :
  Calls Tryz.prog 66 #[.pointer (some ⟨p,0,none⟩),.bool false,.func (.func k) #[] caps] w fun e w' =>∃ W,zAM W p b down (zAI f) (zAI g)∧w.grownBy W (some p)∧e=.returned (.int .i64 0)∧R W w':=by
 have HDO:=yh hdo
 have hen2:∀ (args:Array Value) (w:World),(callFunc k args).run Tryz.prog w=.ok (.enter k args) w:=hen
 have HAF:=yh ha1
 have HAG:=yh ha2
 clear hdo ha1 ha2
 go_enter Tryz.func66,Tryz.ntmps66
 go_wp2
 refine wp_region_held (S:=fun _ =>True) (by kernel_rfl) (show wpAnyH _ _ _ _ _ _ _ _ (w.drew) from ?_)
 have HX0:Hid (zAM w.drew p b down f g):=h
 have HD0:Hid (w.grownBy w.drew none):=⟨rfl,rfl,rfl,Nat.le_refl _,fun _ _ _ =>rfl⟩
 clear h
 obtain ⟨w0,hw0⟩:∃ x,x=w.drew:=⟨_,rfl⟩
 rw [← hw0] at HX0 HD0 ⊢
 clear hw0
 refine zAB 0 (.pointer (some ⟨p,0,none⟩)) rfl (by kernel_rfl) (by kernel_rfl) (by kernel_rfl) (fun _ _ _ h =>h) (by kernel_rfl) trivial (fun _ _ =>by kernel_rfl) ?_
 refine zAB 1 (.pointer (some ⟨p,0,none⟩)) rfl (by kernel_rfl) (by kernel_rfl) (by kernel_rfl) (fun _ _ _ h =>h) (by kernel_rfl) trivial (fun _ _ =>by go_simp) ?_
 refine zAB 2 (.pointer (some ⟨p,2,none⟩)) rfl (by kernel_rfl) (by kernel_rfl) (by kernel_rfl) (fun _ _ _ h =>h) (by kernel_rfl) trivial (fun _ _ =>by go_simp) ?_
 refine zAB 4 (.pointer (some ⟨p,0,none⟩)) rfl (by kernel_rfl) (by kernel_rfl) (by kernel_rfl) (fun _ _ _ h =>h) (by kernel_rfl) trivial (fun _ _ =>by kernel_rfl) ?_
 refine zAB 5 (.pointer (some ⟨p,0,none⟩)) rfl (by kernel_rfl) (by kernel_rfl) (by kernel_rfl) (fun _ _ _ h =>h) (by kernel_rfl) trivial (fun _ _ =>by go_simp) ?_
 refine zAB 6 (.pointer (some ⟨p,4,none⟩)) rfl (by kernel_rfl) (by kernel_rfl) (by kernel_rfl) (fun _ _ _ h =>h) (by kernel_rfl) trivial (fun _ _ =>by go_simp) ?_
 refine zAO 3 rfl (by kernel_rfl) (by kernel_rfl) (fun K hK =>?_)
 go_simp
 refine (zBr p b down f g hf w0 (HX0.out)).mono ?_
 rintro e w1 ⟨he1,hx1,hg1⟩
 rw [HAF.out] at he1;subst he1
 have HX1:=yh hx1
 have HG1:=yh hg1
 clear hx1 hg1
 refine hK _ _ trivial ?_
 clear hK K
 refine zAO 7 rfl (by kernel_rfl) (by kernel_rfl) (fun K hK =>?_)
 go_simp
 refine (zBs p b down (zAI f) g hg w1 (HX1.out)).mono ?_
 rintro e w2 ⟨he2,hx2,hg2⟩
 rw [HAG.out] at he2;subst he2
 have HX2:=yh hx2
 have HG2:=yh hg2
 clear hx2 hg2
 refine hK _ _ trivial ?_
 clear hK K
 refine zAB 8 (.bool false) rfl (by kernel_rfl) (by kernel_rfl) (by kernel_rfl) (fun _ _ _ h =>h) (by kernel_rfl) trivial (fun _ _ =>by kernel_rfl) ?_
 refine zAB 9 (.bool false) rfl (by kernel_rfl) (by kernel_rfl) (by kernel_rfl) (fun _ _ _ h =>h) (by kernel_rfl) trivial (fun _ _ =>by kernel_rfl) ?_
 refine wpAnyH_done (by kernel_rfl) ?_ _
 go_simp
 have HW:=yh (HG1.out.trans HG2.out)
 have HX:=HX2
 generalize w2=w5 at HX HW ⊢
 have HB:=HX
 have HGW:Hid (w.grownBy w5 (some p)):=zBH HD0.out HW.out
 go_wp2_with fail
 refine (HDO.out down _ HB.out HGW.out).mono ?_
 rintro e w7 ⟨rfl,hr⟩
 have HR:=yh hr
 clear hr
 go_wp2
 go_ret
 exact ⟨_,HB.out,HGW.out,rfl,HR.out⟩
theorem zEl (p b:Nat) (down:Bool) (f g:Bool×Int) (hf:zAN f) (hg:zAN g) (late:Bool) (k:FuncId) (hen:Enters Tryz.prog k) (caps:Array Value) (w:World) (h:zAM w p b down f g) (R:World→World→Prop)
  (hdo:∀ d W,zAM W p b d (zAI f) (zAI g)→w.grownBy W (some p)→Calls Tryz.prog k caps W fun e w' =>e=.returned (.tuple #[])∧R W w') :
  Calls Tryz.prog 66 #[.pointer (some ⟨p,0,none⟩),.bool late,.func (.func k) #[] caps] w fun e w' =>∃ W,zAM W p b (down || zAW g) (zAI f) (zAI g)∧w.grownBy W (some p)∧e=.returned (.int .i64 (zAx f g))∧(zAs f g late=true→R W w')∧(zAs f g late=false→w'=W):=by
 cases c2:zAW g with
 | true =>
  cases late with
  | true =>
   cases c1:zAW f with
   | true =>exact (zQj p b down f g hf hg c1 c2 k hen caps w h R hdo).mono fun e w' ⟨W,h1,h2,h3,h4⟩ =>⟨W,by simpa using h1,h2,by simpa [zAx,c2] using h3,fun _ =>h4,by simp [zAs,c2]⟩
   | false =>exact (zQf p b down f g hf hg c1 c2 k hen caps w h R hdo).mono fun e w' ⟨W,h1,h2,h3,h4⟩ =>⟨W,by simpa using h1,h2,by simpa [zAx,c2] using h3,fun _ =>h4,by simp [zAs,c2]⟩
  | false =>
   cases c1:zAW f with
   | true =>exact (zQi p b down f g hf hg c1 c2 k hen caps w h R hdo).mono fun e w' ⟨W,h1,h2,h3,h4⟩ =>⟨W,by simpa using h1,h2,by simpa [zAx,c2] using h3,by simp [zAs,c2],fun _ =>h4⟩
   | false =>exact (zQe p b down f g hf hg c1 c2 k hen caps w h R hdo).mono fun e w' ⟨W,h1,h2,h3,h4⟩ =>⟨W,by simpa using h1,h2,by simpa [zAx,c2] using h3,by simp [zAs,c2],fun _ =>h4⟩
 | false =>
  cases late with
  | true =>
   cases c1:zAW f with
   | true =>exact (zQh p b down f g hf hg c1 c2 k hen caps w h R hdo).mono fun e w' ⟨W,h1,h2,h3,h4⟩ =>⟨W,by simpa using h1,h2,by simpa [zAx,c2,c1] using h3,by simp [zAs,c2,c1],fun _ =>h4⟩
   | false =>exact (zQd p b down f g hf hg c1 c2 k hen caps w h R hdo).mono fun e w' ⟨W,h1,h2,h3,h4⟩ =>⟨W,by simpa using h1,h2,by simpa [zAx,c2,c1] using h3,fun _ =>h4,by simp [zAs,c2,c1]⟩
  | false =>
   cases c1:zAW f with
   | true =>exact (zQg p b down f g hf hg c1 c2 k hen caps w h R hdo).mono fun e w' ⟨W,h1,h2,h3,h4⟩ =>⟨W,by simpa using h1,h2,by simpa [zAx,c2,c1] using h3,by simp [zAs,c2,c1],fun _ =>h4⟩
   | false =>exact (zQc p b down f g hf hg c1 c2 k hen caps w h R hdo).mono fun e w' ⟨W,h1,h2,h3,h4⟩ =>⟨W,by simpa using h1,h2,by simpa [zAx,c2,c1] using h3,fun _ =>h4,by simp [zAs,c2,c1]⟩
theorem zJA {a:Bool×Int} (h:zAN a):zAN (zAI a):=by
 unfold zAN at *
 unfold zAI
 by_cases h1:a.1=true
 ·rw [if_pos h1]
  have:=h h1
  by_cases h2:a.2=0
  ·rw [if_pos h2];simp
  ·rw [if_neg h2]
   intro _
   simp only
   omega
 ·rw [if_neg h1]
  exact h
theorem zIw (w:World):(zeroValue 85).run Tryz.prog w=.ok (.agg #[.slice none 0 0,.int .i64 0]) w:=by kernel_rfl
theorem zDr (p b:Nat) (f g:Bool×Int) (s:List UInt8) (w:World) (h:zAM w p b true f g) :
  Calls Tryz.prog 65 #[.pointer (some ⟨p,0,none⟩),.string (tx s)] w fun e w' =>e=.returned (.tuple #[.agg #[.slice none 0 0,.int .i64 0],.int .i64 7])∧Below w.heap.size w w':=by
 have HB:=yh ((Below.refl w.heap.size w).alloc (Nat.le_refl _) (.cells #[.slice none 0 0,.int .i64 0] 85))
 have hx:=h.below HB.out
 have p1:=zAA (i:=1) h rfl
 have q1:=zAA (i:=1) hx rfl
 have hnew:=zAE w (.cells #[.slice none 0 0,.int .i64 0] 85)
 have n0:=zAA (i:=0) hnew rfl
 have n1:=zAA (i:=1) hnew rfl
 clear h hx hnew
 go_enter Tryz.func65,Tryz.ntmps65
 go_wp2
 refine bodyPost_ret (v:=.tuple #[.agg #[.slice none 0 0,.int .i64 0],.int .i64 7]) (by simp [results,Tryz.results65,go_sem,n0,n1]) rfl ⟨rfl,HB.out⟩
theorem zDs (p b N:Nat) (f g:Bool×Int) (F:List UInt8→Option Value) (s:List UInt8) (hs:s.length≤maxLen) (hF:F s=none) (w:World) (h:zAM w p b false f g) (hm:TMap w b N F) :
  Calls Tryz.prog 65 #[.pointer (some ⟨p,0,none⟩),.string (tx s)] w fun e w' =>e=.returned (.tuple #[.agg #[.slice none 0 0,.int .i64 0],.int .i64 6])∧Below w.heap.size w w':=by
 have HB:=yh ((Below.refl w.heap.size w).alloc (Nat.le_refl _) (.cells #[.slice none 0 0,.int .i64 0] 85))
 have hx:=h.below HB.out
 have hm1:=hm.below HB.out
 have q0:=zAA (i:=0) hx rfl
 have q1:=zAA (i:=1) hx rfl
 have hlk:=hm1.look2 hs Tryz.underlying69 (zIw (w.alloc (.cells #[.slice none 0 0,.int .i64 0] 85)))
 rw [hF] at hlk
 simp only [Option.getD_none,Option.isSome_none] at hlk
 clear h hx hm hm1 hF
 go_enter Tryz.func65,Tryz.ntmps65
 go_wp2
 refine bodyPost_ret (v:=.tuple #[.agg #[.slice none 0 0,.int .i64 0],.int .i64 6]) (by simp [results,Tryz.results65,go_sem]) rfl ⟨rfl,((Below.refl _ _).alloc (Nat.le_refl _) _).alloc (by simp) _⟩
theorem zDG (p b N:Nat) (f g:Bool×Int) (F:List UInt8→Option Value) (s:List UInt8) (hs:s.length≤maxLen) (A:Option Addr) (n c:Nat) (z:Int) (hF:F s=some (.agg #[.slice A n c,.int .i64 z])) (w:World) (h:zAM w p b false f g) (hm:TMap w b N F) :
  Calls Tryz.prog 65 #[.pointer (some ⟨p,0,none⟩),.string (tx s)] w fun e w' =>e=.returned (.tuple #[.agg #[.slice A n c,.int .i64 z],.int .i64 0])∧Below w.heap.size w w':=by
 have HB:=yh ((Below.refl w.heap.size w).alloc (Nat.le_refl _) (.cells #[.slice none 0 0,.int .i64 0] 85))
 have hx:=h.below HB.out
 have hm1:=hm.below HB.out
 have q0:=zAA (i:=0) hx rfl
 have q1:=zAA (i:=1) hx rfl
 have hlk:=hm1.look2 hs Tryz.underlying69 (zIw (w.alloc (.cells #[.slice none 0 0,.int .i64 0] 85)))
 rw [hF] at hlk
 simp only [Option.getD_some,Option.isSome_some] at hlk
 clear h hx hm hm1 hF
 go_enter Tryz.func65,Tryz.ntmps65
 go_wp2
 refine bodyPost_ret (v:=.tuple #[.agg #[.slice A n c,.int .i64 z],.int .i64 0]) (by simp [results,Tryz.results65,go_sem]) rfl ⟨rfl,((Below.refl _ _).alloc (Nat.le_refl _) _).alloc (by simp) _⟩
end Go.Proofs.YtekchkfjgofnkaaGreatDoor
