package frame

import (
	"cablegram/api"
	"cablegram/codec"
)

const (
	bundleMark = 2
	// bundleKeys are Chain, Epoch, Sign and Noise.
	bundleKeys = 4
)

// EncodeBundle are a bundle's bytes.
func EncodeBundle(x api.Bundle) []byte {
	var out codec.Out
	out.Number(bundleMark, markSize)
	out.Keys(x.Chain, x.Epoch, x.Sign, x.Noise)
	b, _ := out.Done() // every bundle can be written
	return b
}

// DecodeBundle is bytes' bundle.
func DecodeBundle(b []byte) (api.Bundle, api.Errno) {
	in := codec.Read(b)
	mark := in.Number(markSize)
	keys := in.Keys(bundleKeys)
	if e := wrong(in.End(), shape{mark, len(keys)}, shape{bundleMark, bundleKeys}); e != api.OK {
		return api.Bundle{}, e
	}
	return api.Bundle{Chain: keys[0], Epoch: keys[1], Sign: keys[2], Noise: keys[3]}, api.OK
}
