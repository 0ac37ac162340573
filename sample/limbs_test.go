package sample_test

import (
	"bytes"
	"slices"
	"testing"

	"relucert/api"
	"relucert/natural"
	"relucert/sample"
)

func TestBytesAndLimbs(t *testing.T) {
	for _, x := range []struct {
		limbs api.Nat
		bytes []byte
	}{
		{nil, nil}, {api.Nat{1}, []byte{1}}, {api.Nat{0x12345678}, []byte{0x12, 0x34, 0x56, 0x78}}, {api.Nat{0x9abcdef0, 0x5678}, []byte{0x56, 0x78, 0x9a, 0xbc, 0xde, 0xf0}}, {api.Nat{0, 1}, []byte{1, 0, 0, 0, 0}},
	} {
		if got := sample.Bytes(x.limbs); !bytes.Equal(bytes.TrimLeft(got, "\x00"), x.bytes) {
			t.Errorf("Bytes of %v: %v", x.limbs, got)
		}
		for _, zeros := range []int{0, 1, 4, 9} {
			padded := append(make([]byte, zeros), x.bytes...)
			if got := sample.Limbs(padded); !slices.Equal(got, x.limbs) {
				t.Errorf("Limbs of %v: %v", padded, got)
			}
		}
	}
	r := sample.Random(7)
	for i := range 100 {
		n := r.Nat(i % 9)
		if got := sample.Limbs(sample.Bytes(n)); !slices.Equal(got, n) || !natural.Valid(got) {
			t.Errorf("Limbs of the bytes of %v: %v", n, got)
		}
	}
}

func TestSpareMemory(t *testing.T) {
	n := api.Nat{5, 6}
	copied := sample.Spare(n)
	if !slices.Equal(copied, n) || cap(copied) == len(copied) {
		t.Fatalf("Spare returns %v with capacity %d", copied, cap(copied))
	}
	before := sample.Memory(copied)
	if len(before) != cap(copied) || !slices.Equal(before[:2], n) {
		t.Errorf("Memory returns %v", before)
	}
	sample.Overwrite(copied)
	for i, x := range sample.Memory(copied) {
		if x == before[i] {
			t.Errorf("limb %d is not overwritten", i)
		}
	}
	if n[0] != 5 || n[1] != 6 {
		t.Error("Overwrite changes the original")
	}
}

func TestShared(t *testing.T) {
	a, b := sample.Spare(api.Nat{1, 2, 3}), sample.Spare(api.Nat{4})
	if sample.Shared([]api.Nat{a, b, nil, {}, {7}}) {
		t.Error("slices of their own share memory")
	}
	for _, list := range [][]api.Nat{{a, a}, {b, a[:0], a[1:2]}, {a[2:], b, a[:1]}, {a, b, a[3:4]}} {
		if !sample.Shared(list) {
			t.Errorf("%v share memory", list)
		}
	}
}

func TestSame(t *testing.T) {
	list := []api.Nat{sample.Spare(api.Nat{1, 2}), nil, sample.Spare(nil)}
	before := sample.Copies(list)
	if !sample.Same(list, before) {
		t.Error("copies are not the same")
	}
	list[2][:1][0]++
	if sample.Same(list, before) {
		t.Error("a change of the spare capacity is not found")
	}
}
