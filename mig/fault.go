package mig

import "needlebeam/api"

// caught is the fault with which something panicked; none, if nothing did. Any
// other panic goes on, as it tells nothing of what was handed in.
func caught(panicked any) api.Fault {
	if panicked == nil {
		return api.Fault{}
	}
	f, ok := panicked.(api.Fault)
	if !ok {
		panic(panicked)
	}
	return f
}
