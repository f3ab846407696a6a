package code

import "cadence/fault"

// seal puts the sum of an image's bytes behind them, so that bytes which were
// changed on their way are refused and don't make a machine of another meaning.
func seal(body []byte) []byte {
	return appendNumber(body, sum(body))
}

// unsealed gives what lies ahead of the sum, if that is the right one.
func unsealed(image []byte) ([]byte, error) {
	if len(image) < wide || len(image) > MaxImage {
		return nil, fault.At(fault.Image, 0)
	}
	end := len(image) - wide
	r := reader{image: image, at: end}
	if r.number() != sum(image[:end]) {
		return nil, fault.At(fault.Image, end)
	}
	return image[:end], nil
}

// sum is the hash FNV-1a of 64 bits. Each of its steps can be undone, so one
// byte that is another always makes another sum.
func sum(b []byte) int64 {
	const basis, prime = 14695981039346656037, 1099511628211
	h := uint64(basis)
	for _, v := range b {
		h = (h ^ uint64(v)) * prime
	}
	return int64(h)
}
