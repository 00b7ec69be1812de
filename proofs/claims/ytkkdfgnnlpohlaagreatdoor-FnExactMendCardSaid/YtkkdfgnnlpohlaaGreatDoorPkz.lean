import Derived.Test.YtkkdfgnnlpohlaaGreatDoorPkw
namespace Go.Proofs.YtkkdfgnnlpohlaaGreatDoor
set_option maxRecDepth 20000
set_option linter.unusedVariables false
set_option linter.unusedSimpArgs false
set_option maxHeartbeats 4000000
open Go.RowKit Go.Proofs.Tryz
variable {W X Y w w' w0 wr : World} {A B at_ b b2 base' c cap e f g go gs hi i j k lo m n s u val z : Nat} {E G I J K L M N O u0 u1 u2 v0 v1 v2 v3 v4 v5 v6 x y : Value} {o : Oper} {Q : Exit → Act → World → Prop} {cs tmps : Array Value} {t : TypeId} {p : Addr} {l : List Nat} {bvs xs : List Value} {a : List UInt8} {first ok : Bool}
section
open Go.Lib
open Go.Sort (grow HoldsK putRowK)
theorem DX{d z:Array Cd}{a b:Nat}(N:a≤b)(Y:b≤d.size)(h:Go.Sort.PermIn a b d z):Seg a b d.toList z.toList:=by
 obtain⟨V,Q,J⟩:=h;have A:∀(x:Array Cd) (i:Nat),i<x.size→x.toList[i]? =some x[i]! :=fun x i hi=>(by simp[hi]);have I:∀i,(i<a∨b≤i)→z.toList[i]? =d.toList[i]? :=fun i hi=>by
  by_cases U:i<d.size
  ·rw[A d i U,A z i (by omega),Q i hi]
  ·rw[Pt (by simp;omega),Pt (by simp;omega)]
 have K:∀(x:Array Cd),(x.extract a b).toList=(x.toList.take b).drop a:=fun x=>by
  rw[Array.toList_extract,List.extract_eq_take_drop,List.drop_take]
 have M:∀(l:List Cd),l=l.take a++((l.take b).drop a++l.drop b):=fun l=>by
  have E:l.take b=(l.take b).take a++(l.take b).drop a:=(Pz a (l.take b)).symm;rw[List.take_take,Nat.min_eq_left N] at E;rw[←PH,←E,Pz]
 rw[K,K] at J;refine⟨?_,I,fun i Z i2=> ?_⟩
 ·rw[M d.toList,M z.toList];have E:z.toList.take a=d.toList.take a:=by
   apply List.ext_getElem?;intro i;rw[List.getElem?_take,List.getElem?_take];split
   ·exact I i (by omega)
   ·rfl
  have O:z.toList.drop b=d.toList.drop b:=by
   apply List.ext_getElem?;intro i;rw[List.getElem?_drop,List.getElem?_drop];exact I _ (by omega)
  rw[E,O];exact(J.append_right _).append_left _
 ·have R:z[i]!∈(z.toList.take b).drop a:=by
   rw[List.mem_iff_getElem?];refine⟨i-a,?_⟩;rw[List.getElem?_drop,List.getElem?_take,OS (by omega),show a+(i-a)=i by omega];exact A z i (by omega)
  have L:=J.mem_iff.1 R;rw[List.mem_iff_getElem?] at L;obtain⟨j,G⟩:=L;rw[List.getElem?_drop,List.getElem?_take] at G;split at G
  ·next hlt=>exact⟨a+j,by omega,hlt,by rw[A z i (by omega)];exact G.symm⟩
  ·cases G
theorem zf{d:Array Cd}{a b:Nat}(I:b≤d.size)(h:Go.Sort.SortedIn (ltOf cmU) a b d):fC Cd.uid d.toList a b:=fun i j z G A=>by
 rw[nP (by omega),nP (by omega)];by_cases e:i=j
 ·subst e;exact OV _
 ·have:=h i j z (by omega) A;unfold ltOf at this;have E:=of_decide_eq_false this;rw[mO] at E;omega
theorem KU:Go.Sort.SWO (ltOf cmU):=by
 constructor
 ·intro x;unfold ltOf;exact OM (by rw[mO];omega)
 ·intro x y z A E;unfold ltOf at*;have:=OU A;have:=OU E;rw[mO] at*;exact ON (by rw[mO];omega)
 ·intro x y z A E;unfold ltOf at*;have:=of_decide_eq_false A;have:=of_decide_eq_false E;rw[mO] at*;exact OM (by rw[mO];omega)
theorem Mt(z cap a b:Nat)(I J:Int)(K:Nat)(d:Array Cd)(w:World)(Q:I=(a:Int))(M:J=(b:Int))(R:K=d.size)(O:HoldsK ee 7 w z 0 d)(L:z<w.heap.size)(E:a≤b)(A:b≤d.size)(U:d.size≤1000000):
  Calls prog 201 #[sS z K cap,.int .i64 I,.int .i64 J,fnC] w (pa 7 w z a b d):=by
 subst Q M R;have h:=AnyQ.insertionSortCmpFunc laysIns 7 isAgg217 sizeOf217 ee (fun _=>rfl) nI cmU 147 #[] z 0 cap a b d w Ij (MY 7 z d.size w) O L E A (by omega);change Calls prog 201 _ _ _ at h;refine h.mono ?_;rintro e w' ⟨rfl,n,os,rfl⟩;obtain⟨G,N⟩:=Go.Sort.insertionSort_holds KU d a b E A;exact⟨rfl,n,_,os,⟨G.1,DX E A G,zf (by rw[G.1];exact A) N⟩,rfl⟩
def Bks(dk:Array Cd)(bs n:Nat):Prop:=∀s,fC Cd.uid dk.toList (s*bs) (min (s*bs+bs) n)
theorem fC.sub{xs:List Cd}{a b z A:Nat}(h:fC Cd.uid xs a b)(J:a≤z)(K:A≤b):fC Cd.uid xs z A:=fun i j G E I=>h i j (by omega) E (by omega)
theorem xH{xs:List Cd}{a b:Nat}(h:b≤a):fC Cd.uid xs a b:=fun i j z A E=>by omega
theorem Ei(A cap:Nat)(d:Array Cd)(w:World)(hH:HoldsK ee 7 w A 0 d)(Q:A<w.heap.size)(ar:d.size≤1000000):
  Calls prog 177 #[sS A d.size cap,.int .i64 (d.size:Int),fnC] w (pa 7 w A 0 d.size d):=by
 have am:=a8 (lj hH);have HH:=a8 hH;obtain⟨n,hn⟩:∃n,d.size=n:=⟨_,rfl⟩
 have HN:=a8 hn;have ay:n≤1000000:=(by omega);rw[hn];clear hH hn ar;go_enter func177,ntmps177;go_wp2;go_loopw [7,8] (fun va vb wr=>∃(t a q:Nat) (z:Array Cd) (os:Array Obj),va=iI a∧vb= .int .i64 ((a:Int)+20)∧Hid (a=t*20)∧a≤n∧z.size=n∧wr=srW 7 w A q z os∧Hid (∀s,s<t→fC Cd.uid z.toList (s*20) (s*20+20))∧Hid (Seg 0 n d.toList z.toList)) (fun va _ _=>n-(intOf va).toNat)
 case atStart=>exact⟨0,0,0,d, #[],rfl,rfl,a8 rfl,O4 _,HN,am,a8 (fun s hs=>by omega),a8 (Seg.refl _ _ _)⟩
 case round=>
  obtain⟨t,a,q,z,os,rfl,rfl,U,an,E,rfl,Z,K⟩:=hrel;have N:=iG q os HH Q (E.trans HN.symm);have O:A<(srW 7 w A q z os).heap.size:=Pb Q (lC _ _ _ _ _);by_cases aj:a+20≤n
  ·have aa:(a:Int)+20≤(n:Int):=(by omega);have C:=a8 (Mt A cap a (a+20) (a:Int) ((a:Int)+20) n z _ rfl (by omega) E.symm N O (by omega) (by omega) (by omega));clear N;generalize Y:srW 7 w A q z os=wq at C O⊢;go_wp2_with fail;refine C.mono ?_;rintro e w2 ⟨rfl,q2,G,ab,⟨J,L,M⟩,rfl⟩;have I:=a8 L;have R:=a8 M;clear L M C;subst Y;rw[jf Q J];go_wp2;go_roundw
   case rel=>
    have V:=U.out;refine⟨t+1,a+20,_,G,_,by go_num,by go_num,a8 (by omega),by omega,J.trans E,rfl,a8 (fun s hs=> ?_),a8 (K.trans (I.mono (by omega) (by omega)))⟩;by_cases e:s=t
    ·subst e;rw[←V];exact R
    ·exact(Z.out s (by omega)).out Cd.uid I (Or.inl (by omega))
   case measure=>simp[intOf];omega
  ·have aa:¬(a:Int)+20≤(n:Int):=(by omega);have C:=a8 (Mt A cap a n (a:Int) (n:Int) n z _ rfl rfl E.symm N O (by omega) (by omega) (by omega));clear N;generalize Y:srW 7 w A q z os=wq at C O⊢;go_wp2_with fail;refine C.mono ?_;rintro e w2 ⟨rfl,q2,G,ab,⟨J,L,M⟩,rfl⟩;have I:=a8 L;have R:=a8 M;clear L M C;subst Y;rw[jf Q J];have ah:=a8 (show Bks G 20 n from fun s=>by
    have V:=U.out;by_cases h1:s<t
    ·exact(((Z.out s h1).out Cd.uid I (Or.inl (by omega)))).sub (OV _) (Nat.min_le_left _ _)
    ·by_cases h2:s=t
     ·subst h2;rw[←V];exact R.sub (OV _) (Nat.min_le_right _ _)
     ·exact xH (by omega))
   have af:=a8 (K.trans (I.mono (by omega) (by omega)));have ak:G.size=n:=J.trans E;clear U Z R I K;generalize aq:q+q2=q3;generalize ap:os++ab=au;clear aq ap;go_wp2;go_loopw [6,7,8,9] (fun vs _ _ _ wr=>∃(bs q:Nat) (z:Array Cd) (os:Array Obj),vs=iI bs∧20≤bs∧bs≤2000020∧z.size=n∧wr=srW 7 w A q z os∧Hid (Bks z bs n)∧Hid (Seg 0 n d.toList z.toList)) (fun vs _ _ _ _=>n-(intOf vs).toNat)
   case atStart=>exact⟨20,q3,G,au,rfl,OV _,by omega,ak,rfl,ah,af⟩
   case round=>
    clear aj aa O;obtain⟨bs,q,z,os,rfl,aw,ax,E,rfl,Z,K⟩:=hrel;by_cases aj:bs<n
    ·have aa:(bs:Int)<(n:Int):=(by omega);clear ah af J ak;go_wp2;go_loopw [7,8] (fun va vb wr=>∃(t a q:Nat) (z:Array Cd) (os:Array Obj),va=iI a∧vb= .int .i64 ((a:Int)+2*(bs:Int))∧Hid (a=t*(2*bs))∧a≤n∧z.size=n∧wr=srW 7 w A q z os∧Hid (∀s,s<t→fC Cd.uid z.toList (s*(2*bs)) (s*(2*bs)+2*bs))∧Hid (∀s,a≤s*bs→fC Cd.uid z.toList (s*bs) (min (s*bs+bs) n))∧Hid (Seg 0 n d.toList z.toList)) (fun va _ _=>n-(intOf va).toNat)
     case atStart=>exact⟨0,0,q,z,os,rfl,by simp,a8 (by omega),O4 _,E,rfl,a8 (fun s hs=>by omega),a8 (fun s hs=>Z.out s),K⟩
     case round=>
      clear Z K E;obtain⟨t,a,q,z,os,rfl,rfl,U,an,E,rfl,ag,ac,K⟩:=hrel;have N:=iG q os HH Q (E.trans HN.symm);have O:A<(srW 7 w A q z os).heap.size:=Pb Q (lC _ _ _ _ _);have HE:=a8 (show a=(2*t)*bs∧(2*t+1)*bs=a+bs∧(t+1)*(2*bs)=a+2*bs from by
       have h:=U.out;have e1:t*(2*bs)=(2*t)*bs:=(by rw[←Nat.mul_assoc,Nat.mul_comm t 2]);refine⟨by omega,?_,?_⟩
       ·rw[Nat.succ_mul];omega
       ·rw[Nat.succ_mul];omega)
      have ad:=a8 (show fC Cd.uid z.toList a (min (a+bs) n) from by
       have:=ac.out (2*t) (by have:=HE.out;omega);rw[←HE.1] at this;exact this)
      have ai:=a8 (show fC Cd.uid z.toList (a+bs) (min (a+2*bs) n) from by
       have:=ac.out (2*t+1) (by have:=HE.out;omega);rw[HE.2.1] at this;rw[show a+2*bs=a+bs+bs by omega];exact this)
      by_cases av:a+2*bs≤n
      ·have al:(a:Int)+2*(bs:Int)≤(n:Int):=(by omega);have C:=a8 (zw srP (2*bs+1) A cap a (a+bs) (a+2*bs) (a:Int) ((a:Int)+(bs:Int)) ((a:Int)+2*(bs:Int)) n z _ rfl (by omega) (by omega) E.symm (by omega) N O (by omega) (by omega) (by omega) (by omega) (ad.sub (OV _) (by omega)) (ai.sub (OV _) (by omega)));clear N;generalize Y:srW 7 w A q z os=wq at C O⊢;go_wp2_with fail;refine C.mono ?_;rintro e w2 ⟨rfl,q2,G,ab,⟨J,L,M⟩,rfl⟩;have I:=a8 L;have R:=a8 M;clear L M C;subst Y;rw[jf Q J];go_wp2;go_roundw
       case rel=>
        have he:=HE.out;have V:=U.out;refine⟨t+1,a+2*bs,_,G,_,by go_num,by go_num,a8 he.2.2.symm,by omega,J.trans E,rfl,a8 (fun s hs=> ?_),a8 (fun s hs=> ?_),a8 (K.trans (I.mono (by omega) (by omega)))⟩
        ·by_cases e:s=t
         ·subst e;rw[←V];exact R
         ·have h1:(s+1)*(2*bs)≤t*(2*bs):=PN _ (by omega);rw[Nat.succ_mul] at h1;exact(ag.out s (by omega)).out Cd.uid I (Or.inl (by omega))
        ·exact(ac.out s (by omega)).out Cd.uid I (Or.inr (by omega))
       case measure=>simp[intOf];omega
      ·have al:¬(a:Int)+2*(bs:Int)≤(n:Int):=(by omega);have ae:=a8 (show∀(G:Array Cd),fC Cd.uid G.toList a n→Seg a n z.toList G.toList→Bks G (bs*2) n from fun G h1 h2 s=>by
        have V:=U.out;have he:=HE.out;rw[show bs*2=2*bs by omega];by_cases e1:s<t
        ·have h3:(s+1)*(2*bs)≤t*(2*bs):=PN _ (by omega);rw[Nat.succ_mul] at h3;exact((ag.out s e1).out Cd.uid h2 (Or.inl (by omega))).sub (OV _) (Nat.min_le_left _ _)
        ·by_cases e2:s=t
         ·subst e2;rw[←V];exact h1.sub (OV _) (Nat.min_le_right _ _)
         ·have h3:(t+1)*(2*bs)≤s*(2*bs):=PN _ (by omega);exact xH (by omega))
       by_cases hm:a+bs<n
       ·have ao:(a:Int)+(bs:Int)<(n:Int):=(by omega);have C:=a8 (zw srP (2*bs+1) A cap a (a+bs) n (a:Int) ((a:Int)+(bs:Int)) (n:Int) n z _ rfl (by omega) rfl E.symm (by omega) N O (by omega) (by omega) (by omega) (by omega) (ad.sub (OV _) (by omega)) (ai.sub (OV _) (by omega)));clear N;generalize Y:srW 7 w A q z os=wq at C O⊢;go_wp2_with fail;refine C.mono ?_;rintro e w2 ⟨rfl,q2,G,ab,⟨J,L,M⟩,rfl⟩;have I:=a8 L;have R:=a8 M;clear L M C;subst Y;rw[jf Q J];go_wp2;go_roundw
        case rel=>exact⟨bs*2,_,G,_,by go_num,by omega,by omega,J.trans E,rfl,a8 (ae.out G R I),a8 (K.trans (I.mono (by omega) (by omega)))⟩
        case measure=>simp[intOf];omega
       ·have ao:¬(a:Int)+(bs:Int)<(n:Int):=(by omega);have HR:=a8 (ae.out z (ad.sub (OV _) (by omega)) (Seg.refl _ _ _));clear N;go_wp2;go_roundw
        case rel=>exact⟨bs*2,q,z,os,by go_num,by omega,by omega,E,rfl,HR,K⟩
        case measure=>simp[intOf];omega
    ·have aa:¬(bs:Int)<(n:Int):=(by omega);have HR:=a8 (show fC Cd.uid z.toList 0 n from(Z.out 0).sub (by omega) (by omega));go_wp2
     go_end0
     exact⟨rfl,q,z,os,⟨E.trans HN.symm,K,HR⟩,rfl⟩
theorem J8(z cap:Nat)(d:Array Cd)(w:World)(A:HoldsK ee 7 w z 0 d)(E:z<w.heap.size)(G:d.size≤1000000):
  Calls prog 146 #[sS z d.size cap,fnC] w (pa 7 w z 0 d.size d):=by
 have C:=a8 (Ei z cap d w A E G);clear A;go_enter func146,ntmps146;go_wp2_with fail;refine C.mono ?_;rintro e I ⟨rfl,h⟩;have H:=a8 h;clear h;go_wp2
 go_end0
 exact⟨rfl,H⟩
theorem J9(w:World):Calls prog 146 #[sN,fnC] w fun e w'=>e= .returned (.tuple #[])∧w'=w:=by
 have z:∀w,Calls prog 201 #[sN,.int .i64 0,.int .i64 0,fnC] w fun e w'=>e= .returned (.tuple #[])∧w'=w:=fun w=>by
  go_enter func201,ntmps201;go_wp2;refine wp_loop_rounds 1 ?_;rw[rounds_succ];go_wp2
  go_end0
  exact⟨rfl,rfl⟩
 have A:∀w,Calls prog 177 #[sN,.int .i64 0,fnC] w fun e w'=>e= .returned (.tuple #[])∧w'=w:=fun w=>by
  go_enter func177,ntmps177;go_wp2;refine wp_loop_rounds 1 ?_;rw[rounds_succ];go_wp2_with fail;refine(z w).mono ?_;rintro e E ⟨rfl,rfl⟩;go_wp2;refine wp_loop_rounds 1 ?_;rw[rounds_succ];go_wp2
  go_end0
  exact⟨rfl,rfl⟩
 go_enter func146,ntmps146;go_wp2_with fail;refine(A w).mono ?_;rintro e E ⟨rfl,rfl⟩;go_wp2
 go_end0
 exact⟨rfl,rfl⟩
end
end Go.Proofs.YtkkdfgnnlpohlaaGreatDoor
