package msg

import (
	"math"
	"slices"

	"trunkline/api"
	"trunkline/wire"
)

const codeSize = 4 // bytes of a result code

// The result codes of a failure on the way, which the flag Failed tells too.
const (
	firstFailure = 3000
	lastFailure  = 3999
)

// Find returns the Data of the first AVP with a Code, and whether there is one. One with a Vendor is another attribute.
func Find(m api.Msg, code uint32) ([]byte, bool) {
	for _, a := range m.Avps {
		if a.Code == code && a.Vendor == 0 {
			return slices.Clone(a.Data), true
		}
	}
	return nil, false
}

// Code returns the result code of m, or 0 if it has none: one of another size is none, wherever it stands.
func Code(m api.Msg) int {
	for _, a := range m.Avps {
		if a.Code == api.ResultCode && a.Vendor == 0 && len(a.Data) == codeSize {
			return int(number(a.Data, 0, codeSize))
		}
	}
	return 0
}

// Answer returns the answer to m that a node of this host and realm gives.
func Answer(m api.Msg, code int, host, realm string, more ...api.Avp) api.Msg {
	a := api.Msg{Proxiable: m.Proxiable, Code: m.Code, App: m.App, Hop: m.Hop, End: m.End}
	a.Failed = code >= firstFailure && code <= lastFailure
	a.Avps = []api.Avp{
		must(api.ResultCode, wire.Put(nil, result(code), codeSize)),
		must(api.OriginHost, []byte(host)),
		must(api.OriginRealm, []byte(realm)),
	}
	for _, x := range more {
		x.Data = slices.Clone(x.Data)
		a.Avps = append(a.Avps, x)
	}
	return a
}

// must returns an AVP with Must.
func must(code uint32, data []byte) api.Avp {
	return api.Avp{Code: code, Must: true, Data: data}
}

// result returns what the bytes of a result code tell, or 0 if they have no room for it; without its sign a negative code is greater than them all.
func result(code int) uint64 {
	if n := uint64(code); n <= math.MaxUint32 {
		return n
	}
	return 0
}
