package dring

import "testing"

// The powers that are kept are read by Powers, and by no other function: they
// compute the same results when what is kept has been overwritten.
func TestOnlyPowersReadsWhatIsKept(t *testing.T) {
	var f Poly
	for i := range f {
		f[i] = uint32(i * 16843009)
	}
	type results struct {
		roots [roots]uint32
		polys [5]Poly
		norm  uint32
	}
	all := func() (r results) {
		for i := range r.roots {
			r.roots[i], _ = Root(i)
		}
		r.polys = [5]Poly{Add(f, f), Sub(Poly{}, f), NTT(f), Inverse(f), Mul(f, f)}
		r.norm = Norm(f)
		return r
	}
	want, kept := all(), Powers()
	defer func() { powers = kept }()
	powers = [order]uint32{}
	if all() != want {
		t.Error("other results without the powers that are kept")
	}
	if Powers() != powers {
		t.Error("Powers does not return the powers that are kept")
	}
}
