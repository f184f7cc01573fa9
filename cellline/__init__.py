"""A fluid mixed, warmed, and let through or passed by. The function to call is cellline.plant.answers."""
